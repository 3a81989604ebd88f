/- The walk of FracSums. -/
import Derived.Test.YtoibkkiohpnaaaaFr8
import Derived.Test.YtoibkkiohpnaaaaFrG
namespace Go.Proofs.Ytoibkkiohpnaaaa
open Go.RowKit
set_option linter.unusedSimpArgs false
set_option linter.unusedVariables false

def sel2 (x y : Fr) : Nat → Fr
  | 0 => x
  | _ => y
theorem idx20 (x y : Fr) (w : World) : (Instr.index 32 (.agg #[.int .i64 x.n, .int .i64 x.d, .bool x.bad, .int .i64 y.n, .int .i64 y.d, .bool y.bad]) (.int .i64 0)).run Try.prog w = .ok (frV x) w := by kernel_rfl
theorem idx21 (x y : Fr) (w : World) : (Instr.index 32 (.agg #[.int .i64 x.n, .int .i64 x.d, .bool x.bad, .int .i64 y.n, .int .i64 y.d, .bool y.bad]) (.int .i64 1)).run Try.prog w = .ok (frV y) w := by kernel_rfl
theorem lowR_scale {n d : Int} (hd : d ≠ 0) : lowR (n * d) (d * d) = lowR n d := by
  unfold lowR
  rw [if_neg (Int.mul_ne_zero hd hd), if_neg hd, Rat.divInt_mul_right hd]
/-- What is told of two that may be: by their parts. -/
structure SumF (a b x y z : Fr) : Prop where
  zn : newR (a.n * b.n) (a.d * b.d) = z
  zs : z.bad = false → fineR z = true ∧ sameB (a.n * b.n) (a.d * b.d) z.n z.d = true
  xs : x.bad = false → fineR x = true ∧ sameB (a.n * b.d + b.n * a.d) (a.d * b.d) x.n x.d = true
  ys : y.bad = false → fineR y = true ∧ sameB (a.n * b.d + -b.n * a.d) (a.d * b.d) y.n y.d = true
  xe : a.d = b.d → newR (a.n + b.n) a.d = x
  ye : a.d = b.d → newR (a.n - b.n) a.d = y
  w1 : wrap64 (a.n * b.n) = a.n * b.n
  w2 : wrap64 (a.d * b.d) = a.d * b.d
  w3 : wrap64 (a.n * b.d) = a.n * b.d
  w4 : wrap64 (b.n * a.d) = b.n * a.d
  w5 : wrap64 (-b.n * a.d) = -b.n * a.d
  w6 : wrap64 (a.n * b.d + b.n * a.d) = a.n * b.d + b.n * a.d
  w7 : wrap64 (a.n * b.d + -b.n * a.d) = a.n * b.d + -b.n * a.d
  w8 : wrap64 (a.n + b.n) = a.n + b.n
  w9 : wrap64 (a.n - b.n) = a.n - b.n
  r1 : rightB (a.n * b.n) = true
  r2 : rightB (a.d * b.d) = true
  r3 : rightB (a.n * b.d + b.n * a.d) = true
  r4 : rightB (a.n * b.d + -b.n * a.d) = true
theorem sumF_all {a b x y z : Fr} (ha : fineR a = true) (hb : fineR b = true) (hx : addR a b = x) (hy : subR a b = y) (hz : mulR a b = z) : SumF a b x y z := by
  have m1 := mul_part (fine_n ha) (fine_n hb)
  have m2 := mul_part (fine_dd ha) (fine_dd hb)
  have m3 := mul_part (fine_n ha) (fine_dd hb)
  have m4 := mul_part (fine_n hb) (fine_dd ha)
  have na := fine_n ha
  have nb := fine_n hb
  have da := fine_dd ha
  have db := fine_dd hb
  have e5 : -b.n * a.d = -(b.n * a.d) := Int.neg_mul _ _
  have dz : a.d * b.d ≠ 0 := Int.mul_ne_zero (fine_d ha) (fine_d hb)
  have lx : lowR (a.n * b.d + b.n * a.d) (a.d * b.d) = x := by rw [low_add ha hb, ← addR_fine ha hb, hx]
  have ly : lowR (a.n * b.d - b.n * a.d) (a.d * b.d) = y := by rw [low_sub ha hb, ← subR_fine ha hb, hy]
  have lz : lowR (a.n * b.n) (a.d * b.d) = z := by rw [low_mul ha hb, ← mulR_fine ha hb, hz]
  have ly' : lowR (a.n * b.d + -b.n * a.d) (a.d * b.d) = y := by rw [e5, ← Int.sub_eq_add_neg]; exact ly
  refine ⟨?_, ?_, ?_, ?_, ?_, ?_, wrap_part m1, wrap_part m2, wrap_part m3, wrap_part m4, ?_, ?_, ?_, ?_, ?_, right_in (by omega) (by omega), right_in (by omega) (by omega), right_in (by omega) (by omega), ?_⟩
  · rw [newR_low m1.1 m1.2 m2.1 m2.2, lz]
  · intro h
    rw [← lz] at h ⊢
    exact ⟨lowR_fine h, sameB_iff.2 (lowR_same dz h)⟩
  · intro h
    rw [← lx] at h ⊢
    exact ⟨lowR_fine h, sameB_iff.2 (lowR_same dz h)⟩
  · intro h
    rw [← ly'] at h ⊢
    exact ⟨lowR_fine h, sameB_iff.2 (lowR_same dz h)⟩
  · intro h
    rw [newR_low (by omega) (by omega) (by omega) (by omega), ← lx, ← h, ← Int.add_mul, lowR_scale (fine_d ha)]
  · intro h
    rw [newR_low (by omega) (by omega) (by omega) (by omega), ← ly, ← h, ← Int.sub_mul, lowR_scale (fine_d ha)]
  · exact IntWalk.wrap64_in _ (by omega)
  · exact IntWalk.wrap64_in _ (by omega)
  · exact IntWalk.wrap64_in _ (by omega)
  · exact IntWalk.wrap64_in _ (by omega)
  · exact IntWalk.wrap64_in _ (by omega)
  · rw [e5]; exact right_in (by omega) (by omega)
theorem same_as (n d m e : Int) (w : World) (h1 : rightB n = true) (h2 : rightB d = true) (hf : fineR ⟨m, e, false⟩ = true) (hs : sameB n d m e = true) :
    Calls Try.prog 15 #[.int .i64 n, .int .i64 d, .int .i64 m, .int .i64 e] w fun r w' => r = .returned (.bool true) ∧ Bl w w' := by
  have f := fineR_iff.1 hf
  dsimp only at f
  have := same_any n d m e w h1 h2 (right_in (by omega) (by omega)) (right_in (by omega) (by omega))
  rwa [hs] at this
theorem fineL_as {a : Fr} (h : fineR a = true) (w : World) : Calls Try.prog 13 #[frV a] w fun e w' => e = .returned (.bool true) ∧ Bl w w' := by
  have := fineL_any a w
  rwa [h] at this

set_option maxRecDepth 1000000 in
set_option maxHeartbeats 4000000 in
theorem walk_FracSums_at (a b x y z : Fr) (hx : addR a b = x) (hy : subR a b = y) (hz : mulR a b = z) (w : World) :
    Calls Try.prog 4 #[frV a, frV b] w fun e w' => e = .returned (.bool true) ∧ Bl w w' := by
  obtain ⟨W, X⟩ := abR_ex w a b
  have HX := hideP X
  clear X
  have T1 := radd_any a b
  have T2 := rsub_any a b
  have T3 := rmul_any a b
  rw [hx] at T1
  rw [hy] at T2
  rw [hz] at T3
  have H1 := hideP T1
  have H2 := hideP T2
  have H3 := hideP T3
  have HE := hideP (And.intro hx (And.intro hy hz))
  clear T1 T2 T3 hx hy hz
  have KP : Hid (∀ w', Bl W w' → (fun w' => w'.cell? ⟨w.heap.size, 0, none⟩ = some (.int .i64 a.n) ∧ w'.cell? ⟨w.heap.size, 1, none⟩ = some (.int .i64 a.d) ∧ w'.cell? ⟨w.heap.size, 2, none⟩ = some (.bool a.bad) ∧ w'.cell? ⟨w.heap.size + 1, 0, none⟩ = some (.int .i64 b.n) ∧ w'.cell? ⟨w.heap.size + 1, 1, none⟩ = some (.int .i64 b.d) ∧ w'.cell? ⟨w.heap.size + 1, 2, none⟩ = some (.bool b.bad) ∧ Bl W w') w') :=
    hideP (fun w' h => ⟨(HX.out.ba.later h).c0, (HX.out.ba.later h).c1, (HX.out.ba.later h).c2, (HX.out.bb.later h).c0, (HX.out.bb.later h).c1, (HX.out.bb.later h).c2, h⟩)
  go_enter Try.func4, Try.ntmps4
  go_upto_region 1 with fail
  rw [← HX.out.eq]
  go_cut [5, 6, 7] (fun p5 p6 p7 wx => ∃ p q r, p5 = ptV p ∧ p6 = ptV q ∧ p7 = ptV r ∧ FBox wx p x ∧ FBox wx q y ∧ FBox wx r z ∧ Bl W wx)
  case first =>
    refine wp_region_noPanic ?_
    refine wp_region_held_drew (S := fun w' => w'.cell? ⟨w.heap.size, 0, none⟩ = some (.int .i64 a.n) ∧ w'.cell? ⟨w.heap.size, 1, none⟩ = some (.int .i64 a.d) ∧ w'.cell? ⟨w.heap.size, 2, none⟩ = some (.bool a.bad) ∧ w'.cell? ⟨w.heap.size + 1, 0, none⟩ = some (.int .i64 b.n) ∧ w'.cell? ⟨w.heap.size + 1, 1, none⟩ = some (.int .i64 b.d) ∧ w'.cell? ⟨w.heap.size + 1, 2, none⟩ = some (.bool b.bad) ∧ Bl W w') (by kernel_rfl) (KP.out _ ((Bl.refl _).drew)) (fun hS => ?_)
    have hB : Bl W W.drew := (Bl.refl _).drew
    generalize W.drew = W1 at *
    refine wpAnyH_take (i := 0) (oi := _) (v := (Value.agg #[.int .i64 a.n, .int .i64 a.d, .bool a.bad])) rfl (by kernel_rfl) (by kernel_rfl) (by kernel_rfl) (fun _ _ _ h => h) (Or.inl ⟨by rfl, ?_⟩) hS ?_
    · intro u hSu
      try dsimp only at hSu
      obtain ⟨s0, s1, s2, s3, s4, s5, s6⟩ := hSu
      go_simp
    try simp only [Act.put, List.getElem_toArray, List.getElem_cons_zero, List.getElem_cons_succ, List.setIfInBounds_toArray, List.set_cons_zero, List.set_cons_succ]
    refine wpAnyH_take (i := 1) (oi := _) (v := (Value.agg #[.int .i64 b.n, .int .i64 b.d, .bool b.bad])) rfl (by kernel_rfl) (by kernel_rfl) (by kernel_rfl) (fun _ _ _ h => h) (Or.inl ⟨by rfl, ?_⟩) hS ?_
    · intro u hSu
      try dsimp only at hSu
      obtain ⟨s0, s1, s2, s3, s4, s5, s6⟩ := hSu
      go_simp
    try simp only [Act.put, List.getElem_toArray, List.getElem_cons_zero, List.getElem_cons_succ, List.setIfInBounds_toArray, List.set_cons_zero, List.set_cons_succ]
    refine wpAnyH_take (i := 3) (oi := _) (v := (Value.agg #[.int .i64 a.n, .int .i64 a.d, .bool a.bad])) rfl (by kernel_rfl) (by kernel_rfl) (by kernel_rfl) (fun _ _ _ h => h) (Or.inl ⟨by rfl, ?_⟩) hS ?_
    · intro u hSu
      try dsimp only at hSu
      obtain ⟨s0, s1, s2, s3, s4, s5, s6⟩ := hSu
      go_simp
    try simp only [Act.put, List.getElem_toArray, List.getElem_cons_zero, List.getElem_cons_succ, List.setIfInBounds_toArray, List.set_cons_zero, List.set_cons_succ]
    refine wpAnyH_take (i := 4) (oi := _) (v := (Value.agg #[.int .i64 b.n, .int .i64 b.d, .bool b.bad])) rfl (by kernel_rfl) (by kernel_rfl) (by kernel_rfl) (fun _ _ _ h => h) (Or.inl ⟨by rfl, ?_⟩) hS ?_
    · intro u hSu
      try dsimp only at hSu
      obtain ⟨s0, s1, s2, s3, s4, s5, s6⟩ := hSu
      go_simp
    try simp only [Act.put, List.getElem_toArray, List.getElem_cons_zero, List.getElem_cons_succ, List.setIfInBounds_toArray, List.set_cons_zero, List.set_cons_succ]
    refine wpAnyH_take (i := 6) (oi := _) (v := (Value.agg #[.int .i64 a.n, .int .i64 a.d, .bool a.bad])) rfl (by kernel_rfl) (by kernel_rfl) (by kernel_rfl) (fun _ _ _ h => h) (Or.inl ⟨by rfl, ?_⟩) hS ?_
    · intro u hSu
      try dsimp only at hSu
      obtain ⟨s0, s1, s2, s3, s4, s5, s6⟩ := hSu
      go_simp
    try simp only [Act.put, List.getElem_toArray, List.getElem_cons_zero, List.getElem_cons_succ, List.setIfInBounds_toArray, List.set_cons_zero, List.set_cons_succ]
    refine wpAnyH_take (i := 7) (oi := _) (v := (Value.agg #[.int .i64 b.n, .int .i64 b.d, .bool b.bad])) rfl (by kernel_rfl) (by kernel_rfl) (by kernel_rfl) (fun _ _ _ h => h) (Or.inl ⟨by rfl, ?_⟩) hS ?_
    · intro u hSu
      try dsimp only at hSu
      obtain ⟨s0, s1, s2, s3, s4, s5, s6⟩ := hSu
      go_simp
    try simp only [Act.put, List.getElem_toArray, List.getElem_cons_zero, List.getElem_cons_succ, List.setIfInBounds_toArray, List.set_cons_zero, List.set_cons_succ]
    refine wpAnyH_phase (fuel := 3) (SumI a b x y z w.heap.size W) ?_ ?_ ?_ 6 _ _ _ ⟨false, false, false, false, false, false, undef, undef, undef, undef, undef, undef, 0, 0, 0, rfl, rfl, rfl, nofun, nofun, nofun, nofun, nofun, nofun, nofun, nofun, nofun, nofun, nofun, hB⟩
    · clear hB hS
      intro l act u h
      obtain ⟨l2, l5, l8, l9, l10, l11, v5, v6, v7, v14, v17, v20, p, q, r, rfl, hk, rfl, e2, e5, e8, e9, e10, e11, d1, d2, d3, c5, c8, hB⟩ := h
      obtain ⟨rfl, rfl, rfl, rfl, rfl, rfl⟩ : l2 = true ∧ l5 = true ∧ l8 = true ∧ l9 = true ∧ l10 = true ∧ l11 = true := by
        cases l2 <;> cases l5 <;> cases l8 <;> cases l9 <;> cases l10 <;> cases l11 <;> first | exact ⟨rfl, rfl, rfl, rfl, rfl, rfl⟩ | (simp [cnt] at hk)
      obtain rfl := e2 rfl
      obtain rfl := e5 rfl
      obtain rfl := e8 rfl
      obtain ⟨rfl, bp, hp⟩ := e9 rfl
      obtain ⟨rfl, bq, hq⟩ := e10 rfl
      obtain ⟨rfl, br, hr⟩ := e11 rfl
      have D1 := hideP (d1 rfl rfl)
      have D2 := hideP (d2 rfl rfl)
      have D3 := hideP (d3 rfl rfl)
      clear e2 e5 e8 e9 e10 e11 hk d1 d2 d3 c5 c8
      unfold sumAct
      refine wpAnyH_ready (rs := [12]) (by kernel_rfl) (by simp) ?_
      refine AllReadyH.cons (i := 12) (o := _) rfl (fun K hK => ?_) AllReadyH.nil
      try simp only [List.getElem_toArray, List.getElem_cons_zero, List.getElem_cons_succ]
      obtain ⟨c0, c1, c2, f0, f1, f2, lt⟩ := bp
      go_simp
      try go_wp2_with fail
      have np := FBox.set3 (⟨c0, c1, c2, f0, f1, f2, lt⟩ : FBox _ _ _) x
      have bq := FBox.set3o bq (D1.out.symm) (.int .i64 x.n) (.int .i64 x.d) (.bool x.bad)
      have br := FBox.set3o br (D2.out.symm) (.int .i64 x.n) (.int .i64 x.d) (.bool x.bad)
      have hB := Bl.set3 hB hp (.int .i64 x.n) (.int .i64 x.d) (.bool x.bad)
      have bp := np
      refine hK.out _ _ (KP.out _ hB) (fun hS => ?_)
      clear hK K c0 c1 c2 f0 f1 f2 lt np
      try simp only [Act.put, List.getElem_toArray, List.getElem_cons_zero, List.getElem_cons_succ, List.setIfInBounds_toArray, List.set_cons_zero, List.set_cons_succ]
      refine wpAnyH_ready (rs := [13]) (by kernel_rfl) (by simp) ?_
      refine AllReadyH.cons (i := 13) (o := _) rfl (fun K hK => ?_) AllReadyH.nil
      try simp only [List.getElem_toArray, List.getElem_cons_zero, List.getElem_cons_succ]
      obtain ⟨c0, c1, c2, f0, f1, f2, lt⟩ := bq
      go_simp
      try go_wp2_with fail
      have nq := FBox.set3 (⟨c0, c1, c2, f0, f1, f2, lt⟩ : FBox _ _ _) y
      have bp := FBox.set3o bp (D1.out) (.int .i64 y.n) (.int .i64 y.d) (.bool y.bad)
      have br := FBox.set3o br (D3.out.symm) (.int .i64 y.n) (.int .i64 y.d) (.bool y.bad)
      have hB := Bl.set3 hB hq (.int .i64 y.n) (.int .i64 y.d) (.bool y.bad)
      have bq := nq
      refine hK.out _ _ (KP.out _ hB) (fun hS => ?_)
      clear hK K c0 c1 c2 f0 f1 f2 lt nq
      try simp only [Act.put, List.getElem_toArray, List.getElem_cons_zero, List.getElem_cons_succ, List.setIfInBounds_toArray, List.set_cons_zero, List.set_cons_succ]
      refine wpAnyH_ready (rs := [14]) (by kernel_rfl) (by simp) ?_
      refine AllReadyH.cons (i := 14) (o := _) rfl (fun K hK => ?_) AllReadyH.nil
      try simp only [List.getElem_toArray, List.getElem_cons_zero, List.getElem_cons_succ]
      obtain ⟨c0, c1, c2, f0, f1, f2, lt⟩ := br
      go_simp
      try go_wp2_with fail
      have nr := FBox.set3 (⟨c0, c1, c2, f0, f1, f2, lt⟩ : FBox _ _ _) z
      have bp := FBox.set3o bp (D2.out) (.int .i64 z.n) (.int .i64 z.d) (.bool z.bad)
      have bq := FBox.set3o bq (D3.out) (.int .i64 z.n) (.int .i64 z.d) (.bool z.bad)
      have hB := Bl.set3 hB hr (.int .i64 z.n) (.int .i64 z.d) (.bool z.bad)
      have br := nr
      refine hK.out _ _ (KP.out _ hB) (fun hS => ?_)
      clear hK K c0 c1 c2 f0 f1 f2 lt nr
      try simp only [Act.put, List.getElem_toArray, List.getElem_cons_zero, List.getElem_cons_succ, List.setIfInBounds_toArray, List.set_cons_zero, List.set_cons_succ]
      refine wpAnyH_done (by kernel_rfl) ?_ _
      refine NoPanic.normal ?_
      try dsimp only [Act.put]
      go_wp2
      go_meet
      exact ⟨p, q, r, rfl, rfl, rfl, bp, bq, br, hB⟩
    · clear hB hS
      intro k l act u h h0
      obtain ⟨l2, l5, l8, l9, l10, l11, v5, v6, v7, v14, v17, v20, p, q, r, rfl, hk, rfl, e2, e5, e8, e9, e10, e11, d1, d2, d3, c5, c8, hB⟩ := h
      rw [List.eq_nil_iff_forall_not_mem] at h0
      cases l9
      · exact h0 9 (mem_ready.2 ⟨rfl, _, rfl, fun e he => by simp at he⟩)
      cases l10
      · exact h0 10 (mem_ready.2 ⟨rfl, _, rfl, fun e he => by simp at he⟩)
      cases l11
      · exact h0 11 (mem_ready.2 ⟨rfl, _, rfl, fun e he => by simp at he⟩)
      cases l2
      · exact h0 2 (mem_ready.2 ⟨rfl, _, rfl, fun e he hb => by simp at he; rcases he with rfl | rfl <;> rfl⟩)
      cases l5
      · exact h0 5 (mem_ready.2 ⟨rfl, _, rfl, fun e he hb => by simp at he; rcases he with rfl | rfl | rfl <;> rfl⟩)
      cases l8
      · exact h0 8 (mem_ready.2 ⟨rfl, _, rfl, fun e he hb => by simp at he; rcases he with rfl | rfl | rfl <;> rfl⟩)
      simp [cnt] at hk
    · clear hB hS
      intro k l act u i h hi hall
      obtain ⟨l2, l5, l8, l9, l10, l11, v5, v6, v7, v14, v17, v20, p, q, r, rfl, hk, rfl, e2, e5, e8, e9, e10, e11, d1, d2, d3, c5, c8, hB⟩ := h
      have hlt := getD_lt hi
      simp only [List.size_toArray, List.length_cons, List.length_nil] at hlt
      rcases (by omega : i = 0 ∨ i = 1 ∨ i = 2 ∨ i = 3 ∨ i = 4 ∨ i = 5 ∨ i = 6 ∨ i = 7 ∨ i = 8 ∨ i = 9 ∨ i = 10 ∨ i = 11 ∨ i = 12 ∨ i = 13 ∨ i = 14) with rfl | rfl | rfl | rfl | rfl | rfl | rfl | rfl | rfl | rfl | rfl | rfl | rfl | rfl | rfl
      · exact Bool.noConfusion (show true = false from hi)
      · exact Bool.noConfusion (show true = false from hi)
      · skip
        have hl : l2 = false := hi
        subst hl
        have E2 := hideP e2
        have E5 := hideP e5
        have E8 := hideP e8
        have E9 := hideP e9
        have E10 := hideP e10
        have E11 := hideP e11
        have D1 := hideP d1
        have D2 := hideP d2
        have D3 := hideP d3
        have C5 := hideP c5
        have C8 := hideP c8
        have HK := hideP hk
        have HB := hideP hB
        clear e2 e5 e8 e9 e10 e11 d1 d2 d3 c5 c8 hk hB hi hall
        refine wpOp_step (o := _) rfl (fun K hK0 => ?_)
        have hK := hideP hK0
        clear hK0
        unfold sumAct
        try simp only [List.getElem_toArray, List.getElem_cons_zero, List.getElem_cons_succ]
        go_simp
        refine (H1.out _).mono ?_
        rintro e w1 ⟨rfl, hb⟩
        try go_wp2_with fail
        refine hK.out _ _ ⟨KP.out _ (HB.out.trans hb), true, l5, l8, l9, l10, l11, v5, v6, v7, frV x, v17, v20, p, q, r, rfl, ?_, rfl, fun _ => rfl, E5.out, E8.out, fun h => ⟨(E9.out h).1, (E9.out h).2.1.later hb, (E9.out h).2.2⟩, fun h => ⟨(E10.out h).1, (E10.out h).2.1.later hb, (E10.out h).2.2⟩, fun h => ⟨(E11.out h).1, (E11.out h).2.1.later hb, (E11.out h).2.2⟩, D1.out, D2.out, D3.out, fun _ => rfl, C8.out, HB.out.trans hb⟩
        have := HK.out
        simp only [cnt] at this ⊢
        simp at this ⊢
        omega
      · exact Bool.noConfusion (show true = false from hi)
      · exact Bool.noConfusion (show true = false from hi)
      · skip
        have hl : l5 = false := hi
        subst hl
        have hd : l2 = true := hall ⟨2, .chain⟩ ⟨_, rfl, by simp⟩ rfl
        have E2 := hideP e2
        have E5 := hideP e5
        have E8 := hideP e8
        have E9 := hideP e9
        have E10 := hideP e10
        have E11 := hideP e11
        have D1 := hideP d1
        have D2 := hideP d2
        have D3 := hideP d3
        have C5 := hideP c5
        have C8 := hideP c8
        have HK := hideP hk
        have HB := hideP hB
        clear e2 e5 e8 e9 e10 e11 d1 d2 d3 c5 c8 hk hB hi hall
        have HD := hideP hd
        clear hd
        refine wpOp_step (o := _) rfl (fun K hK0 => ?_)
        have hK := hideP hK0
        clear hK0
        unfold sumAct
        try simp only [List.getElem_toArray, List.getElem_cons_zero, List.getElem_cons_succ]
        go_simp
        refine (H2.out _).mono ?_
        rintro e w1 ⟨rfl, hb⟩
        try go_wp2_with fail
        refine hK.out _ _ ⟨KP.out _ (HB.out.trans hb), l2, true, l8, l9, l10, l11, v5, v6, v7, v14, frV y, v20, p, q, r, rfl, ?_, rfl, E2.out, fun _ => rfl, E8.out, fun h => ⟨(E9.out h).1, (E9.out h).2.1.later hb, (E9.out h).2.2⟩, fun h => ⟨(E10.out h).1, (E10.out h).2.1.later hb, (E10.out h).2.2⟩, fun h => ⟨(E11.out h).1, (E11.out h).2.1.later hb, (E11.out h).2.2⟩, D1.out, D2.out, D3.out, fun _ => HD.out, fun _ => rfl, HB.out.trans hb⟩
        have := HK.out
        simp only [cnt] at this ⊢
        simp at this ⊢
        omega
      · exact Bool.noConfusion (show true = false from hi)
      · exact Bool.noConfusion (show true = false from hi)
      · skip
        have hl : l8 = false := hi
        subst hl
        have hd : l5 = true := hall ⟨5, .chain⟩ ⟨_, rfl, by simp⟩ rfl
        have E2 := hideP e2
        have E5 := hideP e5
        have E8 := hideP e8
        have E9 := hideP e9
        have E10 := hideP e10
        have E11 := hideP e11
        have D1 := hideP d1
        have D2 := hideP d2
        have D3 := hideP d3
        have C5 := hideP c5
        have C8 := hideP c8
        have HK := hideP hk
        have HB := hideP hB
        clear e2 e5 e8 e9 e10 e11 d1 d2 d3 c5 c8 hk hB hi hall
        have HD := hideP hd
        clear hd
        refine wpOp_step (o := _) rfl (fun K hK0 => ?_)
        have hK := hideP hK0
        clear hK0
        unfold sumAct
        try simp only [List.getElem_toArray, List.getElem_cons_zero, List.getElem_cons_succ]
        go_simp
        refine (H3.out _).mono ?_
        rintro e w1 ⟨rfl, hb⟩
        try go_wp2_with fail
        refine hK.out _ _ ⟨KP.out _ (HB.out.trans hb), l2, l5, true, l9, l10, l11, v5, v6, v7, v14, v17, frV z, p, q, r, rfl, ?_, rfl, E2.out, E5.out, fun _ => rfl, fun h => ⟨(E9.out h).1, (E9.out h).2.1.later hb, (E9.out h).2.2⟩, fun h => ⟨(E10.out h).1, (E10.out h).2.1.later hb, (E10.out h).2.2⟩, fun h => ⟨(E11.out h).1, (E11.out h).2.1.later hb, (E11.out h).2.2⟩, D1.out, D2.out, D3.out, C5.out, fun _ => HD.out, HB.out.trans hb⟩
        have := HK.out
        simp only [cnt] at this ⊢
        simp at this ⊢
        omega
      · skip
        have hl : l9 = false := hi
        subst hl
        have E2 := hideP e2
        have E5 := hideP e5
        have E8 := hideP e8
        have E9 := hideP e9
        have E10 := hideP e10
        have E11 := hideP e11
        have D1 := hideP d1
        have D2 := hideP d2
        have D3 := hideP d3
        have C5 := hideP c5
        have C8 := hideP c8
        have HK := hideP hk
        have HB := hideP hB
        clear e2 e5 e8 e9 e10 e11 d1 d2 d3 c5 c8 hk hB hi hall
        refine wpOp_step (o := _) rfl (fun K hK0 => ?_)
        have hK := hideP hK0
        clear hK0
        unfold sumAct
        try simp only [List.getElem_toArray, List.getElem_cons_zero, List.getElem_cons_succ]
        go_simp
        have hA : Bl u (u.alloc (.cells #[.int .i64 0, .int .i64 0, .bool false] 23)) := (Bl.refl _).alloc _
        have hN := FBox.new u zeroR 23
        have hz := Below.size HB.out
        refine hK.out _ _ ⟨KP.out _ (HB.out.trans hA), l2, l5, l8, true, l10, l11, ptV u.heap.size, v6, v7, v14, v17, v20, u.heap.size, q, r, rfl, ?_, rfl, E2.out, E5.out, E8.out, fun _ => ⟨rfl, hN, hz⟩, fun h => ⟨(E10.out h).1, (E10.out h).2.1.later hA, (E10.out h).2.2⟩, fun h => ⟨(E11.out h).1, (E11.out h).2.1.later hA, (E11.out h).2.2⟩, fun _ h => by have := (E10.out h).2.1.lt; omega, fun _ h => by have := (E11.out h).2.1.lt; omega, D3.out, C5.out, C8.out, HB.out.trans hA⟩
        have := HK.out
        simp only [cnt] at this ⊢
        simp at this ⊢
        omega
      · skip
        have hl : l10 = false := hi
        subst hl
        have E2 := hideP e2
        have E5 := hideP e5
        have E8 := hideP e8
        have E9 := hideP e9
        have E10 := hideP e10
        have E11 := hideP e11
        have D1 := hideP d1
        have D2 := hideP d2
        have D3 := hideP d3
        have C5 := hideP c5
        have C8 := hideP c8
        have HK := hideP hk
        have HB := hideP hB
        clear e2 e5 e8 e9 e10 e11 d1 d2 d3 c5 c8 hk hB hi hall
        refine wpOp_step (o := _) rfl (fun K hK0 => ?_)
        have hK := hideP hK0
        clear hK0
        unfold sumAct
        try simp only [List.getElem_toArray, List.getElem_cons_zero, List.getElem_cons_succ]
        go_simp
        have hA : Bl u (u.alloc (.cells #[.int .i64 0, .int .i64 0, .bool false] 23)) := (Bl.refl _).alloc _
        have hN := FBox.new u zeroR 23
        have hz := Below.size HB.out
        refine hK.out _ _ ⟨KP.out _ (HB.out.trans hA), l2, l5, l8, l9, true, l11, v5, ptV u.heap.size, v7, v14, v17, v20, p, u.heap.size, r, rfl, ?_, rfl, E2.out, E5.out, E8.out, fun h => ⟨(E9.out h).1, (E9.out h).2.1.later hA, (E9.out h).2.2⟩, fun _ => ⟨rfl, hN, hz⟩, fun h => ⟨(E11.out h).1, (E11.out h).2.1.later hA, (E11.out h).2.2⟩, fun h _ => by have := (E9.out h).2.1.lt; omega, D2.out, fun _ h => by have := (E11.out h).2.1.lt; omega, C5.out, C8.out, HB.out.trans hA⟩
        have := HK.out
        simp only [cnt] at this ⊢
        simp at this ⊢
        omega
      · skip
        have hl : l11 = false := hi
        subst hl
        have E2 := hideP e2
        have E5 := hideP e5
        have E8 := hideP e8
        have E9 := hideP e9
        have E10 := hideP e10
        have E11 := hideP e11
        have D1 := hideP d1
        have D2 := hideP d2
        have D3 := hideP d3
        have C5 := hideP c5
        have C8 := hideP c8
        have HK := hideP hk
        have HB := hideP hB
        clear e2 e5 e8 e9 e10 e11 d1 d2 d3 c5 c8 hk hB hi hall
        refine wpOp_step (o := _) rfl (fun K hK0 => ?_)
        have hK := hideP hK0
        clear hK0
        unfold sumAct
        try simp only [List.getElem_toArray, List.getElem_cons_zero, List.getElem_cons_succ]
        go_simp
        have hA : Bl u (u.alloc (.cells #[.int .i64 0, .int .i64 0, .bool false] 23)) := (Bl.refl _).alloc _
        have hN := FBox.new u zeroR 23
        have hz := Below.size HB.out
        refine hK.out _ _ ⟨KP.out _ (HB.out.trans hA), l2, l5, l8, l9, l10, true, v5, v6, ptV u.heap.size, v14, v17, v20, p, q, u.heap.size, rfl, ?_, rfl, E2.out, E5.out, E8.out, fun h => ⟨(E9.out h).1, (E9.out h).2.1.later hA, (E9.out h).2.2⟩, fun h => ⟨(E10.out h).1, (E10.out h).2.1.later hA, (E10.out h).2.2⟩, fun _ => ⟨rfl, hN, hz⟩, D1.out, fun h _ => by have := (E9.out h).2.1.lt; omega, fun h _ => by have := (E10.out h).2.1.lt; omega, C5.out, C8.out, HB.out.trans hA⟩
        have := HK.out
        simp only [cnt] at this ⊢
        simp at this ⊢
        omega
      · exfalso
        have h2 : l2 = true := hall ⟨2, .data⟩ ⟨_, rfl, by simp⟩ rfl
        have h8 : l8 = true := hall ⟨8, .chain⟩ ⟨_, rfl, by simp⟩ rfl
        have h9 : l9 = true := hall ⟨9, .data⟩ ⟨_, rfl, by simp⟩ rfl
        have h10 : l10 = true := hall ⟨10, .phase⟩ ⟨_, rfl, by simp⟩ rfl
        have h11 : l11 = true := hall ⟨11, .phase⟩ ⟨_, rfl, by simp⟩ rfl
        have h5 := c8 h8
        rw [h2, h5, h8, h9, h10, h11] at hk
        simp [cnt] at hk
      · exact Bool.noConfusion (show false = true from hall ⟨12, .chain⟩ ⟨_, rfl, by simp⟩ rfl)
      · exact Bool.noConfusion (show false = true from hall ⟨13, .chain⟩ ⟨_, rfl, by simp⟩ rfl)
  case rest =>
    clear KP H1 H2 H3
    obtain ⟨p, q, r, rfl, rfl, rfl, bx, by', bz, hB⟩ := hcut
    have BX := hideP bx
    have BY := hideP by'
    have BZ := hideP bz
    have H1 := hideP hB
    clear bx by' bz hB
    have FA := hideP (fineL_any a)
    have FB := hideP (fineL_any b)
    have AW := hideP awake4_any
    have EG := Try.frGuard
    rcases quot_cases a b with ⟨cs, hf⟩ | ⟨⟨c1, c2, c3, c4, c5, c6, c7, c8⟩, cs⟩
    · obtain ⟨hx, hy, hz⟩ := HE.out
      obtain ⟨k1, k2, k3, _⟩ := bad_two hf
      rw [k1] at hx
      rw [k2] at hy
      rw [k3] at hz
      subst hx hy hz
      clear hf HE k1 k2 k3
      rcases cs with c1 | ⟨c1, c2⟩ | ⟨c1, c2, c3⟩ | ⟨c1, c2, c3, c4⟩ | ⟨c1, c2, c3, c4, c5⟩ | ⟨c1, c2, c3, c4, c5, c6⟩ | ⟨c1, c2, c3, c4, c5, c6, c7⟩ | ⟨c1, c2, c3, c4, c5, c6, c7, c8⟩
      all_goals
        obtain ⟨a0, a1, a2, af0, af1, af2, al⟩ := HX.out.ba.later H1.out
        try dsimp only at a0 a1 a2
        obtain ⟨b0, b1, b2, bf0, bf1, bf2, bl⟩ := HX.out.bb.later H1.out
        try dsimp only at b0 b1 b2
        obtain ⟨x0, x1, x2, xf0, xf1, xf2, xl⟩ := BX.out.later (Bl.refl wc)
        try dsimp only at x0 x1 x2
        obtain ⟨y0, y1, y2, yf0, yf1, yf2, yl⟩ := BY.out.later (Bl.refl wc)
        try dsimp only at y0 y1 y2
        obtain ⟨z0, z1, z2, zf0, zf1, zf2, zl⟩ := BZ.out.later (Bl.refl wc)
        try dsimp only at z0 z1 z2
        try unfold wrongR at x0 x1 x2 y0 y1 y2 z0 z1 z2
        try dsimp only at x0 x1 x2 y0 y1 y2 z0 z1 z2
        go_wp2_with fail
        refine (AW.out _).mono ?_
        rintro e w2 ⟨rfl, h2⟩
        have H2 := hideP h2
        clear h2
        clear a0 a1 a2 af0 af1 af2 al b0 b1 b2 bf0 bf1 bf2 bl x0 x1 x2 xf0 xf1 xf2 xl y0 y1 y2 yf0 yf1 yf2 yl z0 z1 z2 zf0 zf1 zf2 zl
        go_wp2
        go_ret
        exact ⟨rfl, HX.out.bl.trans (H1.out.trans H2.out)⟩
    · have cs2 : ((fineR a = false ∨ fineR b = false) ∧ (fineR a = false ∨ (fineR a = true ∧ fineR b = false))) ∨ (fineR a = true ∧ fineR b = true) := by
        cases fineR a <;> cases fineR b <;> simp
      clear cs
      rcases cs2 with ⟨hf, cs⟩ | ⟨ha, hb⟩
      · obtain ⟨hx, hy, hz⟩ := HE.out
        obtain ⟨k1, k2, k3, _⟩ := bad_two hf
        rw [k1] at hx
        rw [k2] at hy
        rw [k3] at hz
        subst hx hy hz
        clear hf HE k1 k2 k3
        rcases cs with h | ⟨h1, h2⟩
        · rw [h] at FA
          clear h
          obtain ⟨a0, a1, a2, af0, af1, af2, al⟩ := HX.out.ba.later H1.out
          try dsimp only at a0 a1 a2
          obtain ⟨b0, b1, b2, bf0, bf1, bf2, bl⟩ := HX.out.bb.later H1.out
          try dsimp only at b0 b1 b2
          obtain ⟨x0, x1, x2, xf0, xf1, xf2, xl⟩ := BX.out.later (Bl.refl wc)
          try dsimp only at x0 x1 x2
          obtain ⟨y0, y1, y2, yf0, yf1, yf2, yl⟩ := BY.out.later (Bl.refl wc)
          try dsimp only at y0 y1 y2
          obtain ⟨z0, z1, z2, zf0, zf1, zf2, zl⟩ := BZ.out.later (Bl.refl wc)
          try dsimp only at z0 z1 z2
          try unfold wrongR at x0 x1 x2 y0 y1 y2 z0 z1 z2
          try dsimp only at x0 x1 x2 y0 y1 y2 z0 z1 z2
          go_wp2_with fail
          refine (FA.out _).mono ?_
          rintro e w2 ⟨rfl, h2⟩
          have H2 := hideP h2
          clear h2
          clear a0 a1 a2 af0 af1 af2 al b0 b1 b2 bf0 bf1 bf2 bl x0 x1 x2 xf0 xf1 xf2 xl y0 y1 y2 yf0 yf1 yf2 yl z0 z1 z2 zf0 zf1 zf2 zl
          obtain ⟨a0, a1, a2, af0, af1, af2, al⟩ := HX.out.ba.later (H1.out.trans H2.out)
          try dsimp only at a0 a1 a2
          obtain ⟨b0, b1, b2, bf0, bf1, bf2, bl⟩ := HX.out.bb.later (H1.out.trans H2.out)
          try dsimp only at b0 b1 b2
          obtain ⟨x0, x1, x2, xf0, xf1, xf2, xl⟩ := BX.out.later H2.out
          try dsimp only at x0 x1 x2
          obtain ⟨y0, y1, y2, yf0, yf1, yf2, yl⟩ := BY.out.later H2.out
          try dsimp only at y0 y1 y2
          obtain ⟨z0, z1, z2, zf0, zf1, zf2, zl⟩ := BZ.out.later H2.out
          try dsimp only at z0 z1 z2
          try unfold wrongR at x0 x1 x2 y0 y1 y2 z0 z1 z2
          try dsimp only at x0 x1 x2 y0 y1 y2 z0 z1 z2
          go_wp2_with fail
          refine (AW.out _).mono ?_
          rintro e w3 ⟨rfl, h3⟩
          have H3 := hideP h3
          clear h3
          clear a0 a1 a2 af0 af1 af2 al b0 b1 b2 bf0 bf1 bf2 bl x0 x1 x2 xf0 xf1 xf2 xl y0 y1 y2 yf0 yf1 yf2 yl z0 z1 z2 zf0 zf1 zf2 zl
          go_wp2
          go_ret
          exact ⟨rfl, HX.out.bl.trans ((H1.out.trans H2.out).trans H3.out)⟩
        · rw [h1] at FA
          rw [h2] at FB
          clear h1 h2
          obtain ⟨a0, a1, a2, af0, af1, af2, al⟩ := HX.out.ba.later H1.out
          try dsimp only at a0 a1 a2
          obtain ⟨b0, b1, b2, bf0, bf1, bf2, bl⟩ := HX.out.bb.later H1.out
          try dsimp only at b0 b1 b2
          obtain ⟨x0, x1, x2, xf0, xf1, xf2, xl⟩ := BX.out.later (Bl.refl wc)
          try dsimp only at x0 x1 x2
          obtain ⟨y0, y1, y2, yf0, yf1, yf2, yl⟩ := BY.out.later (Bl.refl wc)
          try dsimp only at y0 y1 y2
          obtain ⟨z0, z1, z2, zf0, zf1, zf2, zl⟩ := BZ.out.later (Bl.refl wc)
          try dsimp only at z0 z1 z2
          try unfold wrongR at x0 x1 x2 y0 y1 y2 z0 z1 z2
          try dsimp only at x0 x1 x2 y0 y1 y2 z0 z1 z2
          go_wp2_with fail
          refine (FA.out _).mono ?_
          rintro e w2 ⟨rfl, h2⟩
          have H2 := hideP h2
          clear h2
          clear a0 a1 a2 af0 af1 af2 al b0 b1 b2 bf0 bf1 bf2 bl x0 x1 x2 xf0 xf1 xf2 xl y0 y1 y2 yf0 yf1 yf2 yl z0 z1 z2 zf0 zf1 zf2 zl
          obtain ⟨a0, a1, a2, af0, af1, af2, al⟩ := HX.out.ba.later (H1.out.trans H2.out)
          try dsimp only at a0 a1 a2
          obtain ⟨b0, b1, b2, bf0, bf1, bf2, bl⟩ := HX.out.bb.later (H1.out.trans H2.out)
          try dsimp only at b0 b1 b2
          obtain ⟨x0, x1, x2, xf0, xf1, xf2, xl⟩ := BX.out.later H2.out
          try dsimp only at x0 x1 x2
          obtain ⟨y0, y1, y2, yf0, yf1, yf2, yl⟩ := BY.out.later H2.out
          try dsimp only at y0 y1 y2
          obtain ⟨z0, z1, z2, zf0, zf1, zf2, zl⟩ := BZ.out.later H2.out
          try dsimp only at z0 z1 z2
          go_wp2_with fail
          refine (FB.out _).mono ?_
          rintro e w3 ⟨rfl, h3⟩
          have H3 := hideP h3
          clear h3
          clear a0 a1 a2 af0 af1 af2 al b0 b1 b2 bf0 bf1 bf2 bl x0 x1 x2 xf0 xf1 xf2 xl y0 y1 y2 yf0 yf1 yf2 yl z0 z1 z2 zf0 zf1 zf2 zl
          obtain ⟨a0, a1, a2, af0, af1, af2, al⟩ := HX.out.ba.later ((H1.out.trans H2.out).trans H3.out)
          try dsimp only at a0 a1 a2
          obtain ⟨b0, b1, b2, bf0, bf1, bf2, bl⟩ := HX.out.bb.later ((H1.out.trans H2.out).trans H3.out)
          try dsimp only at b0 b1 b2
          obtain ⟨x0, x1, x2, xf0, xf1, xf2, xl⟩ := BX.out.later (H2.out.trans H3.out)
          try dsimp only at x0 x1 x2
          obtain ⟨y0, y1, y2, yf0, yf1, yf2, yl⟩ := BY.out.later (H2.out.trans H3.out)
          try dsimp only at y0 y1 y2
          obtain ⟨z0, z1, z2, zf0, zf1, zf2, zl⟩ := BZ.out.later (H2.out.trans H3.out)
          try dsimp only at z0 z1 z2
          try unfold wrongR at x0 x1 x2 y0 y1 y2 z0 z1 z2
          try dsimp only at x0 x1 x2 y0 y1 y2 z0 z1 z2
          go_wp2_with fail
          refine (AW.out _).mono ?_
          rintro e w4 ⟨rfl, h4⟩
          have H4 := hideP h4
          clear h4
          clear a0 a1 a2 af0 af1 af2 al b0 b1 b2 bf0 bf1 bf2 bl x0 x1 x2 xf0 xf1 xf2 xl y0 y1 y2 yf0 yf1 yf2 yl z0 z1 z2 zf0 zf1 zf2 zl
          go_wp2
          go_ret
          exact ⟨rfl, HX.out.bl.trans (((H1.out.trans H2.out).trans H3.out).trans H4.out)⟩
      · have SF := sumF_all ha hb HE.out.1 HE.out.2.1 HE.out.2.2
        rw [ha] at FA
        rw [hb] at FB
        have NZ0 := new_any (a.n * b.n) (a.d * b.d)
        rw [SF.zn] at NZ0
        have NZ := hideP NZ0
        have SX := hideP SF
        have w1 := SF.w1
        have w2 := SF.w2
        have w3 := SF.w3
        have w4 := SF.w4
        have w5 := SF.w5
        have w6 := SF.w6
        have w7 := SF.w7
        have w8 := SF.w8
        have w9 := SF.w9
        clear NZ0 SF ha hb HE
        have fz := field_badR (.int .i64 z.n) (.int .i64 z.d) (.bool z.bad)
        obtain ⟨a0, a1, a2, af0, af1, af2, al⟩ := HX.out.ba.later H1.out
        try dsimp only at a0 a1 a2
        obtain ⟨b0, b1, b2, bf0, bf1, bf2, bl⟩ := HX.out.bb.later H1.out
        try dsimp only at b0 b1 b2
        obtain ⟨x0, x1, x2, xf0, xf1, xf2, xl⟩ := BX.out.later (Bl.refl wc)
        try dsimp only at x0 x1 x2
        obtain ⟨y0, y1, y2, yf0, yf1, yf2, yl⟩ := BY.out.later (Bl.refl wc)
        try dsimp only at y0 y1 y2
        obtain ⟨z0, z1, z2, zf0, zf1, zf2, zl⟩ := BZ.out.later (Bl.refl wc)
        try dsimp only at z0 z1 z2
        go_wp2_with fail
        refine (FA.out _).mono ?_
        rintro e w2 ⟨rfl, h2⟩
        have H2 := hideP h2
        clear h2
        clear a0 a1 a2 af0 af1 af2 al b0 b1 b2 bf0 bf1 bf2 bl x0 x1 x2 xf0 xf1 xf2 xl y0 y1 y2 yf0 yf1 yf2 yl z0 z1 z2 zf0 zf1 zf2 zl
        obtain ⟨a0, a1, a2, af0, af1, af2, al⟩ := HX.out.ba.later (H1.out.trans H2.out)
        try dsimp only at a0 a1 a2
        obtain ⟨b0, b1, b2, bf0, bf1, bf2, bl⟩ := HX.out.bb.later (H1.out.trans H2.out)
        try dsimp only at b0 b1 b2
        obtain ⟨x0, x1, x2, xf0, xf1, xf2, xl⟩ := BX.out.later H2.out
        try dsimp only at x0 x1 x2
        obtain ⟨y0, y1, y2, yf0, yf1, yf2, yl⟩ := BY.out.later H2.out
        try dsimp only at y0 y1 y2
        obtain ⟨z0, z1, z2, zf0, zf1, zf2, zl⟩ := BZ.out.later H2.out
        try dsimp only at z0 z1 z2
        go_wp2_with fail
        refine (FB.out _).mono ?_
        rintro e w3 ⟨rfl, h3⟩
        have H3 := hideP h3
        clear h3
        clear a0 a1 a2 af0 af1 af2 al b0 b1 b2 bf0 bf1 bf2 bl x0 x1 x2 xf0 xf1 xf2 xl y0 y1 y2 yf0 yf1 yf2 yl z0 z1 z2 zf0 zf1 zf2 zl
        obtain ⟨a0, a1, a2, af0, af1, af2, al⟩ := HX.out.ba.later ((H1.out.trans H2.out).trans H3.out)
        try dsimp only at a0 a1 a2
        obtain ⟨b0, b1, b2, bf0, bf1, bf2, bl⟩ := HX.out.bb.later ((H1.out.trans H2.out).trans H3.out)
        try dsimp only at b0 b1 b2
        obtain ⟨x0, x1, x2, xf0, xf1, xf2, xl⟩ := BX.out.later (H2.out.trans H3.out)
        try dsimp only at x0 x1 x2
        obtain ⟨y0, y1, y2, yf0, yf1, yf2, yl⟩ := BY.out.later (H2.out.trans H3.out)
        try dsimp only at y0 y1 y2
        obtain ⟨z0, z1, z2, zf0, zf1, zf2, zl⟩ := BZ.out.later (H2.out.trans H3.out)
        try dsimp only at z0 z1 z2
        go_wp2_with fail
        clear a0 a1 a2 af0 af1 af2 al b0 b1 b2 bf0 bf1 bf2 bl x0 x1 x2 xf0 xf1 xf2 xl y0 y1 y2 yf0 yf1 yf2 yl z0 z1 z2 zf0 zf1 zf2 zl
        go_cut [123] (fun v wx => v = .bool false ∧ Bl w3 wx)
        case first =>
          cases z with
          | mk zn zd zb =>
          cases zb
          · have f := SX.out.zs rfl
            have FZ := hideP (fun w => fineL_as f.1 w)
            have SA := hideP (fun w => same_as _ _ _ _ w SX.out.r1 SX.out.r2 f.1 f.2)
            clear f
            go_wp2_with fail
            have wne := wl_ne w3
            obtain ⟨a0, a1, a2⟩ := (HX.out.ba.later ((H1.out.trans H2.out).trans H3.out)).wl
            try dsimp only at a0 a1 a2
            obtain ⟨b0, b1, b2⟩ := (HX.out.bb.later ((H1.out.trans H2.out).trans H3.out)).wl
            try dsimp only at b0 b1 b2
            obtain ⟨z0, z1, z2⟩ := (BZ.out.later (H2.out.trans H3.out)).wl
            try dsimp only at z0 z1 z2
            refine wl_region w3 (Bl.refl _) (by kernel_rfl) (by kernel_rfl) ?_
            repeat (go_big_quiet_step (first | ((go_at_call 10); exact wl_call (NZ.out _)) | ((go_at_call 13); exact wl_call (FZ.out _)) | ((go_at_call 15); exact wl_call (SA.out _))))
            refine wpQuiet_nil ?_
            intro _ hw'
            obtain ⟨z, hw''⟩ := hw'
            subst hw''
            clear wne
            obtain ⟨w4, h4⟩ := z
            dsimp only
            have H4 := hideP h4
            clear h4
            clear a0 a1 a2 b0 b1 b2 z0 z1 z2
            go_wp2_with fail
            go_meet
            exact ⟨rfl, H4.out⟩
          · skip
            go_wp2_with fail
            have wne := wl_ne w3
            obtain ⟨a0, a1, a2⟩ := (HX.out.ba.later ((H1.out.trans H2.out).trans H3.out)).wl
            try dsimp only at a0 a1 a2
            obtain ⟨b0, b1, b2⟩ := (HX.out.bb.later ((H1.out.trans H2.out).trans H3.out)).wl
            try dsimp only at b0 b1 b2
            obtain ⟨z0, z1, z2⟩ := (BZ.out.later (H2.out.trans H3.out)).wl
            try dsimp only at z0 z1 z2
            refine wl_region w3 (Bl.refl _) (by kernel_rfl) (by kernel_rfl) ?_
            repeat (go_big_quiet_step (first | ((go_at_call 10); exact wl_call (NZ.out _))))
            refine wpQuiet_nil ?_
            intro _ hw'
            obtain ⟨z, hw''⟩ := hw'
            subst hw''
            clear wne
            obtain ⟨w4, h4⟩ := z
            dsimp only
            have H4 := hideP h4
            clear h4
            clear a0 a1 a2 b0 b1 b2 z0 z1 z2
            go_wp2_with fail
            go_meet
            exact ⟨rfl, H4.out⟩
        case rest =>
          obtain ⟨rfl, hB⟩ := hcut
          have H4 := hideP hB
          clear hB NZ fz
          obtain ⟨x0, x1, x2, xf0, xf1, xf2, xl⟩ := BX.out.later ((H2.out.trans H3.out).trans H4.out)
          try dsimp only at x0 x1 x2
          obtain ⟨y0, y1, y2, yf0, yf1, yf2, yl⟩ := BY.out.later ((H2.out.trans H3.out).trans H4.out)
          try dsimp only at y0 y1 y2
          go_wp2_with fail
          clear x0 x1 x2 xf0 xf1 xf2 xl y0 y1 y2 yf0 yf1 yf2 yl
          go_loopw [127] (fun i wr => ∃ k : Nat, k ≤ 2 ∧ i = .int .i64 k ∧ Bl wc wr) (fun i _ => 2 - (intOf i).toNat)
          case atStart => exact ⟨0, by omega, rfl, Bl.refl _⟩
          case round =>
            obtain ⟨k, hk, rfl, hr⟩ := hrel
            have H5 := hideP hr
            clear hr
            by_cases hlt : k < 2
            · rcases (by omega : k = 0 ∨ k = 1) with rfl | rfl
              · cases x with
                | mk vn vd vb =>
                cases vb
                · skip
                  have ix := idx20 ⟨vn, vd, false⟩ y
                  try dsimp only at ix
                  have f := SX.out.xs rfl
                  have FS := hideP (fun w => fineL_as f.1 w)
                  have SA := hideP (fun w => same_as _ _ _ _ w SX.out.r3 SX.out.r2 f.1 f.2)
                  have RI0 := fun w => blOf (refRight_any (a.n * b.d + b.n * a.d) w)
                  rw [SX.out.r3] at RI0
                  have RI := hideP RI0
                  clear f RI0
                  obtain ⟨a0, a1, a2, af0, af1, af2, al⟩ := HX.out.ba.later ((((H1.out.trans H2.out).trans H3.out).trans H4.out).trans H5.out)
                  try dsimp only at a0 a1 a2
                  obtain ⟨b0, b1, b2, bf0, bf1, bf2, bl⟩ := HX.out.bb.later ((((H1.out.trans H2.out).trans H3.out).trans H4.out).trans H5.out)
                  try dsimp only at b0 b1 b2
                  go_wp2_with fail
                  obtain ⟨w6, Y6⟩ := oneA_ex wr ⟨vn, vd, false⟩
                  have e6 := Y6.eq
                  try dsimp only at e6
                  rw [← e6]
                  have H6 := hideP Y6.bl
                  have X6 := hideP Y6.ba
                  clear Y6 e6
                  clear a0 a1 a2 af0 af1 af2 al b0 b1 b2 bf0 bf1 bf2 bl
                  obtain ⟨a0, a1, a2, af0, af1, af2, al⟩ := HX.out.ba.later (((((H1.out.trans H2.out).trans H3.out).trans H4.out).trans H5.out).trans H6.out)
                  try dsimp only at a0 a1 a2
                  obtain ⟨b0, b1, b2, bf0, bf1, bf2, bl⟩ := HX.out.bb.later (((((H1.out.trans H2.out).trans H3.out).trans H4.out).trans H5.out).trans H6.out)
                  try dsimp only at b0 b1 b2
                  obtain ⟨s0, s1, s2, sf0, sf1, sf2, sl⟩ := X6.out.later (Bl.refl w6)
                  try dsimp only at s0 s1 s2
                  go_wp2_with fail
                  refine (FS.out _).mono ?_
                  rintro e w7 ⟨rfl, h7⟩
                  have H7 := hideP h7
                  clear h7
                  clear a0 a1 a2 af0 af1 af2 al b0 b1 b2 bf0 bf1 bf2 bl s0 s1 s2 sf0 sf1 sf2 sl
                  obtain ⟨a0, a1, a2, af0, af1, af2, al⟩ := HX.out.ba.later ((((((H1.out.trans H2.out).trans H3.out).trans H4.out).trans H5.out).trans H6.out).trans H7.out)
                  try dsimp only at a0 a1 a2
                  obtain ⟨b0, b1, b2, bf0, bf1, bf2, bl⟩ := HX.out.bb.later ((((((H1.out.trans H2.out).trans H3.out).trans H4.out).trans H5.out).trans H6.out).trans H7.out)
                  try dsimp only at b0 b1 b2
                  obtain ⟨s0, s1, s2, sf0, sf1, sf2, sl⟩ := X6.out.later H7.out
                  try dsimp only at s0 s1 s2
                  go_wp2_with fail
                  refine (RI.out _).mono ?_
                  rintro e w8 ⟨rfl, h8⟩
                  have H8 := hideP h8
                  clear h8
                  clear a0 a1 a2 af0 af1 af2 al b0 b1 b2 bf0 bf1 bf2 bl s0 s1 s2 sf0 sf1 sf2 sl
                  obtain ⟨a0, a1, a2, af0, af1, af2, al⟩ := HX.out.ba.later (((((((H1.out.trans H2.out).trans H3.out).trans H4.out).trans H5.out).trans H6.out).trans H7.out).trans H8.out)
                  try dsimp only at a0 a1 a2
                  obtain ⟨b0, b1, b2, bf0, bf1, bf2, bl⟩ := HX.out.bb.later (((((((H1.out.trans H2.out).trans H3.out).trans H4.out).trans H5.out).trans H6.out).trans H7.out).trans H8.out)
                  try dsimp only at b0 b1 b2
                  obtain ⟨s0, s1, s2, sf0, sf1, sf2, sl⟩ := X6.out.later (H7.out.trans H8.out)
                  try dsimp only at s0 s1 s2
                  go_wp2_with fail
                  refine (SA.out _).mono ?_
                  rintro e w9 ⟨rfl, h9⟩
                  have H9 := hideP h9
                  clear h9
                  clear a0 a1 a2 af0 af1 af2 al b0 b1 b2 bf0 bf1 bf2 bl s0 s1 s2 sf0 sf1 sf2 sl
                  go_wp2
                  go_roundw
                  case rel => exact ⟨1, by omega, rfl, ((((H5.out.trans H6.out).trans H7.out).trans H8.out).trans H9.out)⟩
                  case measure => simp [intOf]
                · skip
                  have ix := idx20 ⟨vn, vd, true⟩ y
                  try dsimp only at ix
                  obtain ⟨a0, a1, a2, af0, af1, af2, al⟩ := HX.out.ba.later ((((H1.out.trans H2.out).trans H3.out).trans H4.out).trans H5.out)
                  try dsimp only at a0 a1 a2
                  obtain ⟨b0, b1, b2, bf0, bf1, bf2, bl⟩ := HX.out.bb.later ((((H1.out.trans H2.out).trans H3.out).trans H4.out).trans H5.out)
                  try dsimp only at b0 b1 b2
                  go_wp2_with fail
                  obtain ⟨w6, Y6⟩ := oneA_ex wr ⟨vn, vd, true⟩
                  have e6 := Y6.eq
                  try dsimp only at e6
                  rw [← e6]
                  have H6 := hideP Y6.bl
                  have X6 := hideP Y6.ba
                  clear Y6 e6
                  clear a0 a1 a2 af0 af1 af2 al b0 b1 b2 bf0 bf1 bf2 bl
                  obtain ⟨a0, a1, a2, af0, af1, af2, al⟩ := HX.out.ba.later (((((H1.out.trans H2.out).trans H3.out).trans H4.out).trans H5.out).trans H6.out)
                  try dsimp only at a0 a1 a2
                  obtain ⟨b0, b1, b2, bf0, bf1, bf2, bl⟩ := HX.out.bb.later (((((H1.out.trans H2.out).trans H3.out).trans H4.out).trans H5.out).trans H6.out)
                  try dsimp only at b0 b1 b2
                  obtain ⟨s0, s1, s2, sf0, sf1, sf2, sl⟩ := X6.out.later (Bl.refl w6)
                  try dsimp only at s0 s1 s2
                  go_wp2
                  go_roundw
                  case rel => exact ⟨1, by omega, rfl, (H5.out.trans H6.out)⟩
                  case measure => simp [intOf]
              · cases y with
                | mk vn vd vb =>
                cases vb
                · skip
                  have ix := idx21 x ⟨vn, vd, false⟩
                  try dsimp only at ix
                  have f := SX.out.ys rfl
                  have FS := hideP (fun w => fineL_as f.1 w)
                  have SA := hideP (fun w => same_as _ _ _ _ w SX.out.r4 SX.out.r2 f.1 f.2)
                  have RI0 := fun w => blOf (refRight_any (a.n * b.d + -b.n * a.d) w)
                  rw [SX.out.r4] at RI0
                  have RI := hideP RI0
                  clear f RI0
                  obtain ⟨a0, a1, a2, af0, af1, af2, al⟩ := HX.out.ba.later ((((H1.out.trans H2.out).trans H3.out).trans H4.out).trans H5.out)
                  try dsimp only at a0 a1 a2
                  obtain ⟨b0, b1, b2, bf0, bf1, bf2, bl⟩ := HX.out.bb.later ((((H1.out.trans H2.out).trans H3.out).trans H4.out).trans H5.out)
                  try dsimp only at b0 b1 b2
                  go_wp2_with fail
                  obtain ⟨w6, Y6⟩ := oneA_ex wr ⟨vn, vd, false⟩
                  have e6 := Y6.eq
                  try dsimp only at e6
                  rw [← e6]
                  have H6 := hideP Y6.bl
                  have X6 := hideP Y6.ba
                  clear Y6 e6
                  clear a0 a1 a2 af0 af1 af2 al b0 b1 b2 bf0 bf1 bf2 bl
                  obtain ⟨a0, a1, a2, af0, af1, af2, al⟩ := HX.out.ba.later (((((H1.out.trans H2.out).trans H3.out).trans H4.out).trans H5.out).trans H6.out)
                  try dsimp only at a0 a1 a2
                  obtain ⟨b0, b1, b2, bf0, bf1, bf2, bl⟩ := HX.out.bb.later (((((H1.out.trans H2.out).trans H3.out).trans H4.out).trans H5.out).trans H6.out)
                  try dsimp only at b0 b1 b2
                  obtain ⟨s0, s1, s2, sf0, sf1, sf2, sl⟩ := X6.out.later (Bl.refl w6)
                  try dsimp only at s0 s1 s2
                  go_wp2_with fail
                  refine (FS.out _).mono ?_
                  rintro e w7 ⟨rfl, h7⟩
                  have H7 := hideP h7
                  clear h7
                  clear a0 a1 a2 af0 af1 af2 al b0 b1 b2 bf0 bf1 bf2 bl s0 s1 s2 sf0 sf1 sf2 sl
                  obtain ⟨a0, a1, a2, af0, af1, af2, al⟩ := HX.out.ba.later ((((((H1.out.trans H2.out).trans H3.out).trans H4.out).trans H5.out).trans H6.out).trans H7.out)
                  try dsimp only at a0 a1 a2
                  obtain ⟨b0, b1, b2, bf0, bf1, bf2, bl⟩ := HX.out.bb.later ((((((H1.out.trans H2.out).trans H3.out).trans H4.out).trans H5.out).trans H6.out).trans H7.out)
                  try dsimp only at b0 b1 b2
                  obtain ⟨s0, s1, s2, sf0, sf1, sf2, sl⟩ := X6.out.later H7.out
                  try dsimp only at s0 s1 s2
                  go_wp2_with fail
                  refine (RI.out _).mono ?_
                  rintro e w8 ⟨rfl, h8⟩
                  have H8 := hideP h8
                  clear h8
                  clear a0 a1 a2 af0 af1 af2 al b0 b1 b2 bf0 bf1 bf2 bl s0 s1 s2 sf0 sf1 sf2 sl
                  obtain ⟨a0, a1, a2, af0, af1, af2, al⟩ := HX.out.ba.later (((((((H1.out.trans H2.out).trans H3.out).trans H4.out).trans H5.out).trans H6.out).trans H7.out).trans H8.out)
                  try dsimp only at a0 a1 a2
                  obtain ⟨b0, b1, b2, bf0, bf1, bf2, bl⟩ := HX.out.bb.later (((((((H1.out.trans H2.out).trans H3.out).trans H4.out).trans H5.out).trans H6.out).trans H7.out).trans H8.out)
                  try dsimp only at b0 b1 b2
                  obtain ⟨s0, s1, s2, sf0, sf1, sf2, sl⟩ := X6.out.later (H7.out.trans H8.out)
                  try dsimp only at s0 s1 s2
                  go_wp2_with fail
                  refine (SA.out _).mono ?_
                  rintro e w9 ⟨rfl, h9⟩
                  have H9 := hideP h9
                  clear h9
                  clear a0 a1 a2 af0 af1 af2 al b0 b1 b2 bf0 bf1 bf2 bl s0 s1 s2 sf0 sf1 sf2 sl
                  go_wp2
                  go_roundw
                  case rel => exact ⟨2, by omega, rfl, ((((H5.out.trans H6.out).trans H7.out).trans H8.out).trans H9.out)⟩
                  case measure => simp [intOf]
                · skip
                  have ix := idx21 x ⟨vn, vd, true⟩
                  try dsimp only at ix
                  obtain ⟨a0, a1, a2, af0, af1, af2, al⟩ := HX.out.ba.later ((((H1.out.trans H2.out).trans H3.out).trans H4.out).trans H5.out)
                  try dsimp only at a0 a1 a2
                  obtain ⟨b0, b1, b2, bf0, bf1, bf2, bl⟩ := HX.out.bb.later ((((H1.out.trans H2.out).trans H3.out).trans H4.out).trans H5.out)
                  try dsimp only at b0 b1 b2
                  go_wp2_with fail
                  obtain ⟨w6, Y6⟩ := oneA_ex wr ⟨vn, vd, true⟩
                  have e6 := Y6.eq
                  try dsimp only at e6
                  rw [← e6]
                  have H6 := hideP Y6.bl
                  have X6 := hideP Y6.ba
                  clear Y6 e6
                  clear a0 a1 a2 af0 af1 af2 al b0 b1 b2 bf0 bf1 bf2 bl
                  obtain ⟨a0, a1, a2, af0, af1, af2, al⟩ := HX.out.ba.later (((((H1.out.trans H2.out).trans H3.out).trans H4.out).trans H5.out).trans H6.out)
                  try dsimp only at a0 a1 a2
                  obtain ⟨b0, b1, b2, bf0, bf1, bf2, bl⟩ := HX.out.bb.later (((((H1.out.trans H2.out).trans H3.out).trans H4.out).trans H5.out).trans H6.out)
                  try dsimp only at b0 b1 b2
                  obtain ⟨s0, s1, s2, sf0, sf1, sf2, sl⟩ := X6.out.later (Bl.refl w6)
                  try dsimp only at s0 s1 s2
                  go_wp2
                  go_roundw
                  case rel => exact ⟨2, by omega, rfl, (H5.out.trans H6.out)⟩
                  case measure => simp [intOf]
            · obtain rfl : k = 2 := by omega
              by_cases hd : a.d = b.d
              · have hq : (a.d == b.d) = true := by simpa using hd
                have hq2 : (a.d != b.d) = false := by simpa using hd
                have hq3 : decide (a.d = b.d) = true := by simpa using hd
                have NX0 := new_any (a.n + b.n) a.d
                rw [SX.out.xe hd] at NX0
                have NY0 := new_any (a.n - b.n) a.d
                rw [SX.out.ye hd] at NY0
                have NX := hideP NX0
                have NY := hideP NY0
                have fx := field_badR (.int .i64 x.n) (.int .i64 x.d) (.bool x.bad)
                have fy := field_badR (.int .i64 y.n) (.int .i64 y.d) (.bool y.bad)
                clear NX0 NY0 hd
                go_wp2_with fail
                have wne := wl_ne wr
                obtain ⟨a0, a1, a2⟩ := (HX.out.ba.later ((((H1.out.trans H2.out).trans H3.out).trans H4.out).trans H5.out)).wl
                try dsimp only at a0 a1 a2
                obtain ⟨b0, b1, b2⟩ := (HX.out.bb.later ((((H1.out.trans H2.out).trans H3.out).trans H4.out).trans H5.out)).wl
                try dsimp only at b0 b1 b2
                obtain ⟨x0, x1, x2⟩ := (BX.out.later (((H2.out.trans H3.out).trans H4.out).trans H5.out)).wl
                try dsimp only at x0 x1 x2
                obtain ⟨y0, y1, y2⟩ := (BY.out.later (((H2.out.trans H3.out).trans H4.out).trans H5.out)).wl
                try dsimp only at y0 y1 y2
                refine wl_region wr (Bl.refl _) (by kernel_rfl) (by kernel_rfl) ?_
                repeat (go_big_quiet_step (first | ((go_at_call 12); exact wl_call (AW.out _)) | ((go_at_call_of 10 #[Value.int .i64 (a.n + b.n), Value.int .i64 a.d]); exact wl_call (NX.out _)) | ((go_at_call_of 10 #[Value.int .i64 (a.n - b.n), Value.int .i64 a.d]); exact wl_call (NY.out _))))
                refine wpQuiet_nil ?_
                intro _ hw'
                obtain ⟨z, hw''⟩ := hw'
                subst hw''
                clear wne
                obtain ⟨w6, h6⟩ := z
                dsimp only
                have H6 := hideP h6
                clear h6
                clear a0 a1 a2 b0 b1 b2 x0 x1 x2 y0 y1 y2
                go_wp2
                go_ret
                exact ⟨rfl, HX.out.bl.trans (((((H1.out.trans H2.out).trans H3.out).trans H4.out).trans H5.out).trans H6.out)⟩
              · have hq : (a.d == b.d) = false := by simpa using hd
                have hq2 : (a.d != b.d) = true := by simpa using hd
                have hq3 : decide (a.d = b.d) = false := by simpa using hd
                clear hd
                go_wp2_with fail
                have wne := wl_ne wr
                obtain ⟨a0, a1, a2⟩ := (HX.out.ba.later ((((H1.out.trans H2.out).trans H3.out).trans H4.out).trans H5.out)).wl
                try dsimp only at a0 a1 a2
                obtain ⟨b0, b1, b2⟩ := (HX.out.bb.later ((((H1.out.trans H2.out).trans H3.out).trans H4.out).trans H5.out)).wl
                try dsimp only at b0 b1 b2
                obtain ⟨x0, x1, x2⟩ := (BX.out.later (((H2.out.trans H3.out).trans H4.out).trans H5.out)).wl
                try dsimp only at x0 x1 x2
                obtain ⟨y0, y1, y2⟩ := (BY.out.later (((H2.out.trans H3.out).trans H4.out).trans H5.out)).wl
                try dsimp only at y0 y1 y2
                refine wl_region wr (Bl.refl _) (by kernel_rfl) (by kernel_rfl) ?_
                repeat (go_big_quiet_step (first | ((go_at_call 12); exact wl_call (AW.out _))))
                refine wpQuiet_nil ?_
                intro _ hw'
                obtain ⟨z, hw''⟩ := hw'
                subst hw''
                clear wne
                obtain ⟨w6, h6⟩ := z
                dsimp only
                have H6 := hideP h6
                clear h6
                clear a0 a1 a2 b0 b1 b2 x0 x1 x2 y0 y1 y2
                go_wp2
                go_ret
                exact ⟨rfl, HX.out.bl.trans (((((H1.out.trans H2.out).trans H3.out).trans H4.out).trans H5.out).trans H6.out)⟩
theorem walk_FracSums (a b : Fr) (w : World) :
    Calls Try.prog 4 #[frV a, frV b] w fun e w' => e = .returned (.bool true) ∧ Bl w w' :=
  walk_FracSums_at a b _ _ _ rfl rfl rfl w
end Go.Proofs.Ytoibkkiohpnaaaa
