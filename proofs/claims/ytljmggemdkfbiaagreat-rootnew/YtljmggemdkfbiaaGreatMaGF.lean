/- An append of what is told of two values to a row, of fractions: a region that draws its order (layer 6). Written by genMa.py. -/
import Derived.Test.YtljmggemdkfbiaaGreatMaEF
import Derived.Test.YtljmggemdkfbiaaGreatReg
namespace Go.Proofs.YtljmggemdkfbiaaGreat
open Go.RowKit Go.Shelf
set_option linter.unusedSimpArgs false
set_option linter.unusedVariables false

theorem Tryz.load1F (B : Nat) (v : Value) (u : World) (h : u.cell? ⟨B, 0, none⟩ = some v) : (Instr.loadAt 28 (.pointer (some ⟨B, 0, none⟩))).run Tryz.prog u = .ok v u := by
  simp [go_sem, h]
theorem Tryz.store1F (B : Nat) (p : Option Addr) (n cap : Nat) (v : Value) (u : World) (h : u.cell? ⟨B, 0, none⟩ = some v) (hf : u.frozen? ⟨B, 0, none⟩ = false) : (Instr.storeAt 28 (.pointer (some ⟨B, 0, none⟩)) (.slice p n cap)).run Tryz.prog u = .ok () (u.setCell ⟨B, 0, none⟩ (.slice p n cap)) := by
  simp [go_sem, h, hf]
theorem Tryz.build1F (x : Fr) (u : World) : (Instr.buildSlice 28 1 #[(0, frV x)]).run Tryz.prog u = .ok (.slice (some ⟨u.heap.size, 0, none⟩) 1 1) (u.alloc (.cells #[.int .i64 x.n, .int .i64 x.d, .bool x.bad] 34)) := by
  simp [go_sem]
/-- Between two of its operations. -/
def DotIF (d : Nat) (a : Act) (W : World) (v v1 v2 : Value) (z : Fr) (base : Nat) (xs : List Fr) (B : Nat) (L : Nat → Bool) (act : Act) (u : World) : Prop :=
  a.tmps.size = act.tmps.size ∧ (∀ s, s < d → act.eval (.tmp s) = a.eval (.tmp s)) ∧ (L 3 = true → L 1 = true ∧ L 2 = true) ∧ (L 4 = true → L 3 = true) ∧ (L 5 = true → L 0 = true ∧ L 4 = true) ∧ (L 6 = true → L 5 = true)
    ∧ (L 5 = false → Bl W u ∧ (L 0 = true → act.eval (.tmp d) = v) ∧ (L 1 = true → act.eval (.tmp (d + 1)) = v1) ∧ (L 2 = true → act.eval (.tmp (d + 2)) = v2) ∧ (L 3 = true → act.eval (.tmp (d + 3)) = frV z) ∧ (L 4 = true → ∃ g, act.eval (.tmp (d + 4)) = .slice (some ⟨g, 0, none⟩) 1 1 ∧ FBox u g z))
    ∧ (L 5 = true → ∃ u0 w5 g' cap', Bl W u0 ∧ u0.grownBy w5 v.ownBlock ∧ w5.ownsRow base 34 3 (.slice (some ⟨g', 0, none⟩) (xs.length + 1) cap') (xs.length + 1) (xs.flatMap cellsF ++ cellsF z) ∧ (some g' = v.ownBlock ∨ g' = u0.heap.size)
        ∧ (L 6 = false → u = w5 ∧ act.eval (.tmp (d + 5)) = .slice (some ⟨g', 0, none⟩) (xs.length + 1) cap') ∧ (L 6 = true → u = w5.setCell ⟨B, 0, none⟩ (.slice (some ⟨g', 0, none⟩) (xs.length + 1) cap')))
set_option maxHeartbeats 1000000 in
theorem dotAppendF {F : Fence} {m : Nat} {ops : Array Oper} {o0 o1 o2 o3 o4 o5 o6 : Oper} {Q : Exit → Act → World → Prop} {a : Act} {W : World} {id : Nat} (hops : ops = #[o0, o1, o2, o3, o4, o5, o6]) (hlow : lowB ops = true) (d sL fD : Nat) (hsz : d + 6 ≤ a.tmps.size) (hsL : sL < d)
    (g0 : o0.guard = none ∧ o0.dst = some d ∧ o0.op = .load 28 (.tmp sL)) (g1 : o1.guard = none ∧ o1.dst = some (d + 1)) (g2 : o2.guard = none ∧ o2.dst = some (d + 2))
    (g3 : o3.guard = none ∧ o3.dst = some (d + 3) ∧ o3.op = .call { callee := .value (.func fD), args := #[.tmp (d + 1), .tmp (d + 2)], argTypes := #[28, 28] })
    (g4 : o4.guard = none ∧ o4.dst = some (d + 4) ∧ o4.op = .buildSlice 28 1 #[(0, .tmp (d + 3))])
    (g5 : o5.guard = none ∧ o5.dst = some (d + 5) ∧ o5.op = .call { callee := .builtin .append, args := #[.tmp d, .tmp (d + 4)], argTypes := #[28, 28] })
    (g6 : o6.guard = none ∧ o6.dst = none ∧ o6.op = .store 28 (.tmp sL) (.tmp (d + 5)))
    (e3 : (⟨1, .data⟩ : Edge) ∈ o3.after ∧ (⟨2, .data⟩ : Edge) ∈ o3.after) (e4 : (⟨3, .data⟩ : Edge) ∈ o4.after) (e5 : (⟨0, .data⟩ : Edge) ∈ o5.after ∧ (⟨4, .data⟩ : Edge) ∈ o5.after) (e6 : (⟨5, .data⟩ : Edge) ∈ o6.after)
    (v1 v2 : Value) (h1 : ∀ (act : Act) (u : World) (K : Act → World → Prop), (∀ s, s < d → act.eval (.tmp s) = a.eval (.tmp s)) → Bl W u → K (act.put (some (d + 1)) v1) u → Oper.wpIn F m Tryz.prog o1 act u K Q)
    (h2 : ∀ (act : Act) (u : World) (K : Act → World → Prop), (∀ s, s < d → act.eval (.tmp s) = a.eval (.tmp s)) → Bl W u → K (act.put (some (d + 2)) v2) u → Oper.wpIn F m Tryz.prog o2 act u K Q)
    (hF : F.fn fD) (hdep : F.depth.isSome = true → 1 ≤ m) (eg : ∀ args w, (callFunc fD args).run Tryz.prog w = .ok (.enter fD args) w) (z : Fr)
    (hC : ∀ u, Bl W u → CallsIn F (m - 1) Tryz.prog fD #[v1, v2] u fun e w' => e = .returned (frV z) ∧ Bl u w')
    (B : Nat) (hB : a.eval (.tmp sL) = .pointer (some ⟨B, 0, none⟩)) (v : Value) (hv : Boxed W B 28 v) (base : Nat) (xs : List Fr) (hown : W.ownsRow base 34 3 v xs.length (xs.flatMap cellsF)) (hlen : xs.length ≤ 100000) (hbase : base ≤ W.heap.size)
    (fin : ∀ act u0 w5 g' cap', Bl W u0 → u0.grownBy w5 v.ownBlock → w5.ownsRow base 34 3 (.slice (some ⟨g', 0, none⟩) (xs.length + 1) cap') (xs.length + 1) (xs.flatMap cellsF ++ cellsF z) → (some g' = v.ownBlock ∨ g' = u0.heap.size) → Q .normal act (w5.setCell ⟨B, 0, none⟩ (.slice (some ⟨g', 0, none⟩) (xs.length + 1) cap'))) :
    (Code.region id ops true).wpIn F m Tryz.prog Q a W := by
  obtain ⟨i0, hi, hz0, hz1, hz2⟩ := info_parts Tryz.info_F
  have fm : Tryz.prog.follows .mixedOrders = true := by kernel_rfl
  refine region_facts fm (lowB_low hlow) (DotIF d a W v v1 v2 z base xs B) ?_ ?_ ?_
  · exact ⟨rfl, fun _ _ => rfl, nofun, nofun, nofun, nofun, fun _ => ⟨(Bl.refl _).drew, nofun, nofun, nofun, nofun, nofun⟩, nofun⟩
  · intro L act u i o ⟨hs, hfr, c3, c4, c5, c6, hpre, hpost⟩ ho hLi hall
    have hlt : i < 7 := by have := (Array.getElem?_eq_some_iff.1 ho).1; rw [hops] at this; simpa using this
    have sv : ∀ (e : Nat) (x : Value), e < act.tmps.size → (act.put (some e) x).eval (.tmp e) = x := fun e x h => eval_put_same h
    have ne5 : (L 5 = true → False) → L 5 = false := fun h => by cases hh : L 5 <;> simp_all
    have fr : ∀ (e : Nat) (x : Value), d ≤ e → ∀ s, s < d → (act.put (some e) x).eval (.tmp s) = a.eval (.tmp s) := fun e x he s hs => by rw [eval_put_other (by omega)]; exact hfr s hs
    rcases (by omega : i = 0 ∨ i = 1 ∨ i = 2 ∨ i = 3 ∨ i = 4 ∨ i = 5 ∨ i = 6) with rfl | rfl | rfl | rfl | rfl | rfl | rfl
    · obtain rfl : o = o0 := by rw [hops] at ho; simpa using ho.symm
      have l5 : L 5 = false := ne5 fun h => by rw [(c5 h).1] at hLi; cases hLi
      obtain ⟨hb, p0, p1, p2, p3, p4⟩ := hpre l5
      refine step_wp ho g0.1 (load_wp _ _ g0.2.2 (v := v) (by rw [hfr _ hsL, hB]; exact Tryz.load1F B v u (boxed_bl hv hb).cell) ?_)
      rw [g0.2.1]
      refine ⟨by rw [size_put]; exact hs, fr _ _ (Nat.le_refl _), by simpa using c3, by simpa using c4, by simp [l5], by simpa using c6, fun _ => ⟨hb, fun _ => sv _ _ (by omega), ?_, ?_, ?_, ?_⟩, by simp [l5]⟩
      all_goals (simp only [Nat.reduceEqDiff, Nat.reduceBEq, Bool.or_false]; intro h; rw [eval_put_other (by omega)])
      · exact p1 h
      · exact p2 h
      · exact p3 h
      · exact p4 h
    · obtain rfl : o = o1 := by rw [hops] at ho; simpa using ho.symm
      have l3 : L 3 = false := by cases hh : L 3 <;> simp_all
      have l4 : L 4 = false := by cases hh : L 4 <;> simp_all
      have l5 : L 5 = false := ne5 fun h => by rw [(c5 h).2] at l4; cases l4
      obtain ⟨hb, p0, p1, p2, p3, p4⟩ := hpre l5
      refine step_wp ho g1.1 (h1 act u _ hfr hb ?_)
      refine ⟨by rw [size_put]; exact hs, fr _ _ (by omega), by simp [l3], by simp [l4], by simp [l5], by simpa using c6, fun _ => ⟨hb, ?_, fun _ => sv _ _ (by omega), ?_, by simp [l3], by simp [l4]⟩, by simp [l5]⟩
      all_goals (simp only [Nat.reduceEqDiff, Nat.reduceBEq, Bool.or_false]; intro h; rw [eval_put_other (by omega)])
      · exact p0 h
      · exact p2 h
    · obtain rfl : o = o2 := by rw [hops] at ho; simpa using ho.symm
      have l3 : L 3 = false := by cases hh : L 3 <;> simp_all
      have l4 : L 4 = false := by cases hh : L 4 <;> simp_all
      have l5 : L 5 = false := ne5 fun h => by rw [(c5 h).2] at l4; cases l4
      obtain ⟨hb, p0, p1, p2, p3, p4⟩ := hpre l5
      refine step_wp ho g2.1 (h2 act u _ hfr hb ?_)
      refine ⟨by rw [size_put]; exact hs, fr _ _ (by omega), by simp [l3], by simp [l4], by simp [l5], by simpa using c6, fun _ => ⟨hb, ?_, ?_, fun _ => sv _ _ (by omega), by simp [l3], by simp [l4]⟩, by simp [l5]⟩
      all_goals (simp only [Nat.reduceEqDiff, Nat.reduceBEq, Bool.or_false]; intro h; rw [eval_put_other (by omega)])
      · exact p0 h
      · exact p1 h
    · obtain rfl : o = o3 := by rw [hops] at ho; simpa using ho.symm
      have l1 : L 1 = true := hall _ e3.1 rfl
      have l2 : L 2 = true := hall _ e3.2 rfl
      have l4 : L 4 = false := by cases hh : L 4 <;> simp_all
      have l5 : L 5 = false := ne5 fun h => by rw [(c5 h).2] at l4; cases l4
      obtain ⟨hb, p0, p1, p2, p3, p4⟩ := hpre l5
      refine step_wp ho g3.1 (call2_wp fD _ _ _ g3.2.2 hF hdep eg (by rw [p1 l1, p2 l2]; exact hC u hb) ?_)
      rintro e w' ⟨rfl, hb'⟩
      refine ⟨_, rfl, ?_⟩
      rw [g3.2.1]
      refine ⟨by rw [size_put]; exact hs, fr _ _ (by omega), by simp [l1, l2], by simp [l4], by simp [l5], by simpa using c6, fun _ => ⟨hb.trans hb', ?_, ?_, ?_, fun _ => sv _ _ (by omega), by simp [l4]⟩, by simp [l5]⟩
      all_goals (simp only [Nat.reduceEqDiff, Nat.reduceBEq, Bool.or_false]; intro h; rw [eval_put_other (by omega)])
      · exact p0 h
      · exact p1 h
      · exact p2 h
    · obtain rfl : o = o4 := by rw [hops] at ho; simpa using ho.symm
      have l3 : L 3 = true := hall _ e4 rfl
      have l5 : L 5 = false := ne5 fun h => by rw [(c5 h).2] at hLi; cases hLi
      obtain ⟨hb, p0, p1, p2, p3, p4⟩ := hpre l5
      refine step_wp ho g4.1 (build_wp _ _ g4.2.2 (by rw [p3 l3]; exact Tryz.build1F z u) ?_)
      rw [g4.2.1]
      refine ⟨by rw [size_put]; exact hs, fr _ _ (by omega), by simpa using c3, by simp [l3], by simp [l5], by simpa using c6, fun _ => ⟨hb.alloc _, ?_, ?_, ?_, ?_, fun _ => ⟨u.heap.size, sv _ _ (by omega), FBox.new u z _⟩⟩, by simp [l5]⟩
      all_goals (simp only [Nat.reduceEqDiff, Nat.reduceBEq, Bool.or_false]; intro h; rw [eval_put_other (by omega)])
      · exact p0 h
      · exact p1 h
      · exact p2 h
      · exact p3 h
    · obtain rfl : o = o5 := by rw [hops] at ho; simpa using ho.symm
      have l0 : L 0 = true := hall _ e5.1 rfl
      have l4 : L 4 = true := hall _ e5.2 rfl
      have l6 : L 6 = false := by cases hh : L 6 <;> simp_all
      obtain ⟨hb, p0, p1, p2, p3, p4⟩ := hpre hLi
      obtain ⟨g, hg, bz⟩ := p4 l4
      refine step_wp ho g5.1 (stepIn_append (.tmp d) (.tmp (d + 4)) 28 g5.2.2 base 34 i0 (.agg #[.int .i64 0, .int .i64 0, .bool false]) 3 24 Tryz.underlying28 hi hz0 hz1 hz2 rfl (by decide) v xs.length (xs.flatMap cellsF) (p0 l0) (own_blF hown hb) ⟨g, 0, none⟩ 1 1 (cellsF z) hg rfl bz.cells (oneF_cells _) (by unfold maxLen; omega) (by omega) (by have := hb.size; omega) ?_)
      intro v' w5 hown' hgrow hat
      obtain ⟨g', cap', rfl⟩ := ownsRow_succ hown'
      rw [g5.2.1]
      refine ⟨by rw [size_put]; exact hs, fr _ _ (by omega), by simpa using c3, by simpa using c4, by simp [l0, l4], by simp [l6], by simp, fun _ => ⟨u, w5, g', cap', hb, hgrow, hown', ?_, fun _ => ⟨rfl, sv _ _ (by omega)⟩, by simp [l6]⟩⟩
      rcases hat with h | h
      · exact .inl h
      · exact .inr (by simpa [Value.ownBlock] using h)
    · obtain rfl : o = o6 := by rw [hops] at ho; simpa using ho.symm
      have l5 : L 5 = true := hall _ e6 rfl
      obtain ⟨u0, w5, g', cap', k1, k2, k3, k4, k5, _⟩ := hpost l5
      obtain ⟨rfl, ev⟩ := k5 hLi
      have hv5 : Boxed u B 28 v := (boxed_bl hv k1).kept k2 ((boxed_bl hv k1).not_row (by decide) (own_blF hown k1))
      refine step_wp ho g6.1 (store_wp _ _ _ g6.2.2 (by rw [hfr _ hsL, hB, ev]; exact Tryz.store1F B _ _ _ v u hv5.cell hv5.frozen) ?_)
      rw [g6.2.1]
      exact ⟨by rw [size_put]; exact hs, fun s hs => hfr s hs, by simpa using c3, by simpa using c4, by simpa using c5, by simp [l5], by simp [l5], fun _ => ⟨u0, u, g', cap', k1, k2, k3, k4, by simp, fun _ => rfl⟩⟩
  · intro L act u ⟨hs, hfr, c3, c4, c5, c6, hpre, hpost⟩ hL
    have hL' : ∀ j, j < 7 → L j = true := fun j hj => hL j (by rw [hops]; simpa using hj)
    obtain ⟨u0, w5, g', cap', k1, k2, k3, k4, _, k6⟩ := hpost (hL' 5 (by omega))
    rw [k6 (hL' 6 (by omega))]
    exact fin act u0 w5 g' cap' k1 k2 k3 k4
end Go.Proofs.YtljmggemdkfbiaaGreat
