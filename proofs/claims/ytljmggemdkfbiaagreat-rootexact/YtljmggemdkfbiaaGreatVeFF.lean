/- What is done of all pairs of two rows, of fractions: vec's each (layer 5). Written by genVe.py. -/
import Derived.Test.YtljmggemdkfbiaaGreatVeEF
import Derived.Test.YtljmggemdkfbiaaGreatVeG
namespace Go.Proofs.YtljmggemdkfbiaaGreat
open Go.RowKit Go.Shelf
set_option linter.unusedSimpArgs false
set_option linter.unusedVariables false
attribute [local go_sem] Oper.semAt_some

theorem FBox.own {X Y : World} {b : Nat} {x : Fr} {row : Option Nat} (h : FBox X b x) (hg : X.grownBy Y row) (hr : ∀ r, row = some r → ∃ o : Obj, X.heap[r]? = some o ∧ o.isCells = false) : FBox Y b x :=
  ⟨cell_kept h.c0 hg hr, cell_kept h.c1 hg hr, cell_kept h.c2 hg hr, (frozen_kept h.c0 hg hr).trans h.f0, (frozen_kept h.c1 hg hr).trans h.f1, (frozen_kept h.c2 hg hr).trans h.f2, by have := h.lt; have := hg.size; omega⟩
theorem FBox.cells {w : World} {b : Nat} {x : Fr} (h : FBox w b x) : ∀ j u, (cellsF x)[j]? = some u → w.cell? ((⟨b, 0, none⟩ : Addr).add j) = some u := by
  intro j u hu
  have hadd : (⟨b, 0, none⟩ : Addr).add j = ⟨b, j, none⟩ := by unfold Addr.add; split <;> simp_all
  rw [hadd]
  unfold cellsF at hu
  rcases j with _ | _ | _ | j
  · simp at hu; rw [← hu]; exact h.c0
  · simp at hu; rw [← hu]; exact h.c1
  · simp at hu; rw [← hu]; exact h.c2
  · simp at hu
/-- The frame while a pair's result is appended. -/
def eachActF (t0 t1 t2 t6 t10 t11 t12 t13 t14 t15 t16 t17 t18 t19 t20 : Value) (D R X Y : Nat) (v21 v22 v23 v24 v25 v26 : Value) : Act :=
  { tmps := #[t0, t1, t2, undef, undef, .pointer (some ⟨D, 0, none⟩), t6, .pointer (some ⟨R, 0, none⟩), .pointer (some ⟨X, 0, none⟩), .pointer (some ⟨Y, 0, none⟩), t10, t11, t12, t13, t14, t15, t16, t17, t18, t19, t20, v21, v22, v23, v24, v25, v26, undef, undef], defers := [] }
/-- Between two of its operations. -/
def EachIF (A : Value → Value → Value → Value → Value → Value → Act) (v f : Value) (x y z : Fr) (W : World) (k : Nat) (l : Array Bool) (act : Act) (u : World) : Prop :=
  ∃ (l0 l1 l2 l3 l4 l5 : Bool) (v21 v22 v23 v24 v25 v26 : Value) (g : Nat), l = #[l0, l1, l2, l3, l4, l5, false, false] ∧ k = one' l0 + one' l1 + one' l2 + one' l3 + one' l4 + one' l5 ∧ act = A v21 v22 v23 v24 v25 v26
    ∧ (l0 = true → v21 = v) ∧ (l1 = true → v22 = f) ∧ (l2 = true → v23 = frV x) ∧ (l3 = true → v24 = frV y) ∧ (l4 = true → v25 = frV z) ∧ (l5 = true → v26 = .slice (some ⟨g, 0, none⟩) 1 1 ∧ FBox u g z)
    ∧ (l4 = true → l1 = true ∧ l2 = true ∧ l3 = true) ∧ (l5 = true → l4 = true) ∧ Bl W u
set_option maxRecDepth 100000 in
set_option maxHeartbeats 2000000 in
theorem eachF' (K : Nat) (op : Fr → Fr → Fr) (hK : ∀ a b w, Calls Tryz.prog K #[frV a, frV b] w fun e w' => e = .returned (frV (op a b)) ∧ Bl w w') (eg : ∀ args w, (callFunc K args).run Tryz.prog w = .ok (.enter K args) w)
    (va vb : Value) (xs ys : List Fr) (w : World) (ha : Rq 3 cellsF w va xs) (hb : Rq 3 cellsF w vb ys) (hl : xs.length ≤ 1000000) (hm : ys.length ≤ 1000000) :
    Calls Tryz.prog 93 #[va, vb, .func (.func K) #[] #[]] w fun e w' => ∃ u, e = .returned u ∧ Rw 3 cellsF w' u (List.zipWith op xs ys) ∧ Fresh w.heap.size u ∧ Bl w w' := by
  obtain ⟨i0, hi, hz0, hz1, hz2⟩ := info_parts Tryz.info_F
  refine (callsIn_wide (n := 6)).1 ?_
  obtain ⟨p, cap, rfl, hc, _⟩ := ha.cut
  obtain ⟨q, dap, rfl, hd, _⟩ := hb.cut
  have HA := hideP ha
  have HB := hideP hb
  clear ha hb
  have HK := hideP hK
  clear hK
  obtain ⟨m, hmin⟩ : ∃ m, m = min xs.length ys.length := ⟨_, rfl⟩
  have hm0 : min (xs.length : Int) (ys.length : Int) = (m : Int) := by omega
  have hm1 : (if ys.length < xs.length then (ys.length : Int) else (xs.length : Int)) = (m : Int) := by split <;> omega
  have hml : m ≤ 1000000 := by omega
  have HM := hideP hmin
  clear hmin
  refine callsIn_of_wp_marks Tryz.func93 rfl trivial ?_ rfl
  simp only [Tryz.ntmps93, List.size_toArray, List.length_cons, List.length_nil, Nat.reduceAdd, Nat.reduceSub, Array.replicate_succ, Array.replicate_zero, List.push_toArray, List.append_toArray, List.nil_append, List.cons_append]
  gi_wp2_with (first
    | (gi_at_make; refine wpListIn_make_own _ rfl _ _ 28 rfl w.heap.size 34 i0 (.agg #[.int .i64 0, .int .i64 0, .bool false]) 3 Tryz.underlying28 hi hz0 hz1 .i64 .i64 _ m rfl rfl (by simp) (by rw [hz2]; omega) (by unfold maxLen; omega) (by simp) ?_; intro w0 hown0 hgrow0; have hB0 : Bl w w0 := ((Bl.refl w).alloc _).grown hgrow0 (by simp) (fun k e => by cases e))
    | (refine ⟨trivial, ?_⟩; refine (callsIn_wide.2 (vPairsF _ _ xs ys _ (HA.out.later (hB0.alloc _)) (HB.out.later (hB0.alloc _)) hl hm)).mono ?_; rintro e w3 ⟨rfl, hP, hB3⟩))
  simp only [World.size_alloc] at hP hown0
  have hszl : w0.heap.size + 1 ≤ w3.heap.size := by have := hB3.size; simpa using this
  have hsz0 : w.heap.size + 1 ≤ w0.heap.size := by have := hgrow0.size; simpa using this
  have hB : Bl w w3 := (hB0.alloc _).trans hB3
  have bD : Boxed w3 w.heap.size 126 (.func (.func K) #[] #[]) := boxed_bl (((Boxed.new w 126 (.func (.func K) #[] #[])).kept hgrow0 (by simp)).alloc _) hB3
  have bR : Boxed w3 w0.heap.size 28 (.slice (some ⟨w.heap.size + 1, 0, none⟩) 0 m) := boxed_bl (Boxed.new w0 28 _) hB3
  have hrow : w3.ownsRow w.heap.size 34 3 (.slice (some ⟨w.heap.size + 1, 0, none⟩) 0 m) 0 [] := own_blF (hown0.alloc _) hB3
  clear hown0
  have HP := hideP hP
  clear hP
  refine wpIn_rangeFunc_ownH rfl (by omega) (gf := 152) (lb := #[.pointer (some ⟨w0.heap.size + 1, 0, none⟩), .pointer (some ⟨w0.heap.size + 1 + 1, 0, none⟩)]) rfl trivial (enters_of Tryz.func152 (by kernel_rfl) rfl)
    (seqF 5 _ _ _ w3.heap.size _ _ (by simp; omega) w3 (Nat.le_refl _) HP.out) (fun h k => h.trans k) (span_b (Nat.le_refl _)) (Below.refl _ _) (fun _ => rfl)
    (fun pre W => (∃ v, Boxed W w0.heap.size 28 v ∧ W.ownsRow w.heap.size 34 3 v (opL op pre).length ((opL op pre).flatMap cellsF) ∧ (∀ g, v.ownBlock = some g → g < w0.heap.size + 1 ∨ w3.heap.size ≤ g)) ∧ (Boxed W w.heap.size 126 (.func (.func K) #[] #[]) ∧ (Below w.heap.size w W ∧ w3.heap.size ≤ W.heap.size)))
    (fun _ _ _ => False)
    (OwnFrom.and (Own.from (holdsRow_own w.heap.size w0.heap.size 28 34 3 (fun pre => (opL op pre).length) (fun pre => (opL op pre).flatMap cellsF) (fun pre v => ∀ g, v.ownBlock = some g → g < w0.heap.size + 1 ∨ w3.heap.size ≤ g)) _) (OwnFrom.and (Own.from (boxed_own _ _ _) _) (OwnFrom.and (ownFrom_below (Nat.le_refl _) hB.size) (fun _ _ _ _ h hg _ => Nat.le_trans h hg.size))))
    (fun _ _ _ _ _ hs _ _ => hs)
    ⟨⟨_, bR, hrow, fun g hg => by cases hg; exact .inl (by show w.heap.size + 1 < _; omega)⟩, bD, hB, Nat.le_refl _⟩
    (fun x a' W => ∃ Bx, w3.heap.size ≤ Bx ∧ FBox W Bx x.1 ∧ FBox W (Bx + 1) x.2 ∧ a' = eachActF (.slice p xs.length cap) (.slice q ys.length dap) (.func (.func K) #[] #[]) (.slice none 0 0) (.slice p xs.length cap) (.int .i64 xs.length) (.slice q ys.length dap) (.int .i64 ys.length) (.int .i64 m) (.slice (some ⟨w.heap.size + 1, 0, none⟩) 0 m) (.slice p xs.length cap) (.slice q ys.length dap) (.func (.func 152) #[] #[.pointer (some ⟨w0.heap.size + 1, 0, none⟩), .pointer (some ⟨w0.heap.size + 1 + 1, 0, none⟩)]) (frV x.1) (frV x.2) w.heap.size w0.heap.size Bx (Bx + 1) undef undef undef undef undef undef)
    (fun x a' _ X Y row hs hg hr => by obtain ⟨Bx, h0, h1, h2, h3⟩ := hs; exact ⟨Bx, h0, h1.own hg (fun r e => (hr r e).2), h2.own hg (fun r e => (hr r e).2), h3⟩)
    ?assign ?body ?done ?stop
  case assign =>
    rintro l pre x W K' ⟨⟨v, hv, hr, hg⟩, hd, hBW, hsW⟩ hK'
    have HK2 := hideP hK'
    clear hK'
    gi_wp2
    have hb2 : Bl W ((W.alloc (.cells #[.int .i64 x.1.n, .int .i64 x.1.d, .bool x.1.bad] 34)).alloc (.cells #[.int .i64 x.2.n, .int .i64 x.2.d, .bool x.2.bad] 34)) := ((Bl.refl W).alloc _).alloc _
    exact HK2.out _ _ (hb2.keeps _) (hb2.span hsW) ⟨⟨v, (hv.alloc _).alloc _, (hr.alloc _).alloc _, hg⟩, (hd.alloc _).alloc _, hBW.trans (hb2.mono hBW.size), by have := hb2.size; omega⟩
      ⟨W.heap.size, hsW, (FBox.new W x.1 _).later ((Bl.refl _).alloc _), by have := FBox.new (W.alloc (.cells #[.int .i64 x.1.n, .int .i64 x.1.d, .bool x.1.bad] 34)) x.2 34; simpa using this, rfl⟩
  case body =>
    rintro l pre ⟨x, y⟩ a' W hl' ⟨r, hr'⟩ ⟨⟨v, hv, hrow, hg⟩, hd, hBW, hsW⟩ ⟨Bx, hBx, b1, b2, rfl⟩ hlt
    have fm : Tryz.prog.follows .mixedOrders = true := by kernel_rfl
    have HV := hideP hv
    have HD := hideP hd
    have HR := hideP hrow
    have B1 := hideP b1
    have B2 := hideP b2
    have HG := hideP hg
    have HBW := hideP hBW
    clear hv hd hrow b1 b2 hg hBW
    obtain ⟨z, hz⟩ : ∃ z, z = op x y := ⟨_, rfl⟩
    have HK3 := hideP (fun u => HK.out x y u)
    rw [← hz] at HK3
    have HZ := hideP hz
    clear hz
    have hpl : (opL op pre).length = pre.length := by simp [opL]
    have hlt' : pre.length ≤ 1000000 := by simp at hlt; omega
    obtain ⟨A, hA⟩ : ∃ A, A = eachActF (.slice p xs.length cap) (.slice q ys.length dap) (.func (.func K) #[] #[]) (.slice none 0 0) (.slice p xs.length cap) (.int .i64 xs.length) (.slice q ys.length dap) (.int .i64 ys.length) (.int .i64 m) (.slice (some ⟨w.heap.size + 1, 0, none⟩) 0 m) (.slice p xs.length cap) (.slice q ys.length dap) (.func (.func 152) #[] #[.pointer (some ⟨w0.heap.size + 1, 0, none⟩), .pointer (some ⟨w0.heap.size + 1 + 1, 0, none⟩)]) (frV x) (frV y) w.heap.size w0.heap.size Bx (Bx + 1) := ⟨_, rfl⟩
    show Code.wpIn _ _ _ _ _ (eachActF _ _ _ _ _ _ _ _ _ _ _ _ _ (frV x) (frV y) _ _ _ _ _ _ _ _ _ _) W
    rw [← hA]
    have HAct := hideP hA
    clear hA
    gi_wp2
    refine wpIn_region_any fm ?_
    change wpAnyIn _ _ _ _ _ _ _ _ _ (World.drew _)
    refine wpAnyIn_phase (fuel := 2) (EachIF A v (.func (.func K) #[] #[]) x y z W) ?fin ?live ?step 6 _ _ _ ⟨false, false, false, false, false, false, undef, undef, undef, undef, undef, undef, 0, rfl, rfl, rfl, nofun, nofun, nofun, nofun, nofun, nofun, nofun, nofun, (Bl.refl _).drew⟩
    case live =>
      intro k l act u h h0
      obtain ⟨l0, l1, l2, l3, l4, l5, v21, v22, v23, v24, v25, v26, g, rfl, hk, rfl, e0, e1, e2, e3, e4, e5, c4, c5, hB⟩ := h
      rw [List.eq_nil_iff_forall_not_mem] at h0
      cases l0
      · exact h0 0 (mem_ready.2 ⟨rfl, _, rfl, fun e he => by simp at he⟩)
      cases l1
      · exact h0 1 (mem_ready.2 ⟨rfl, _, rfl, fun e he => by simp at he⟩)
      cases l2
      · exact h0 2 (mem_ready.2 ⟨rfl, _, rfl, fun e he => by simp at he⟩)
      cases l3
      · exact h0 3 (mem_ready.2 ⟨rfl, _, rfl, fun e he => by simp at he⟩)
      cases l4
      · exact h0 4 (mem_ready.2 ⟨rfl, _, rfl, fun e he hb => by simp at he; rcases he with rfl | rfl | rfl <;> rfl⟩)
      cases l5
      · exact h0 5 (mem_ready.2 ⟨rfl, _, rfl, fun e he hb => by simp at he; rcases he with rfl; rfl⟩)
      simp [one'] at hk
    case step =>
      intro k l act u i h hi' hall
      obtain ⟨l0, l1, l2, l3, l4, l5, v21, v22, v23, v24, v25, v26, g, rfl, hk, rfl, e0, e1, e2, e3, e4, e5, c4, c5, hB⟩ := h
      have hlt2 := getD_lt' hi'
      simp only [List.size_toArray, List.length_cons, List.length_nil] at hlt2
      have cR : u.cell? ⟨w0.heap.size, 0, none⟩ = some v := (boxed_bl HV.out hB).cell
      have cD : u.cell? ⟨w.heap.size, 0, none⟩ = some (.func (.func K) #[] #[]) := (boxed_bl HD.out hB).cell
      obtain ⟨c0, c1, c2, f0, f1, f2, lt1⟩ := B1.out.later hB
      obtain ⟨d0, d1, d2, g0, g1, g2, lt2⟩ := B2.out.later hB
      rcases (by omega : i = 0 ∨ i = 1 ∨ i = 2 ∨ i = 3 ∨ i = 4 ∨ i = 5 ∨ i = 6 ∨ i = 7) with rfl | rfl | rfl | rfl | rfl | rfl | rfl | rfl
      · skip
        have hl0 : l0 = false := hi'
        subst hl0
        have E0 := hideP e0
        have E1 := hideP e1
        have E2 := hideP e2
        have E3 := hideP e3
        have E4 := hideP e4
        have E5 := hideP e5
        have C4 := hideP c4
        have C5 := hideP c5
        have HKk := hideP hk
        have HBu := hideP hB
        clear e0 e1 e2 e3 e4 e5 c4 c5 hk hB hi' hall
        refine wpOpIn_step (o := _) rfl (fun K' hK0 => ?_)
        have hK' := hideP hK0
        clear hK0
        rw [HAct.out]
        unfold eachActF
        try simp only [List.getElem_toArray, List.getElem_cons_zero, List.getElem_cons_succ]
        go_simp
        exact hK'.out _ _ ⟨true, l1, l2, l3, l4, l5, (v), v22, v23, v24, v25, v26, g, rfl, by have := HKk.out; simp [one'] at this ⊢; omega, by rw [HAct.out]; rfl, fun _ => rfl, E1.out, E2.out, E3.out, E4.out, E5.out, C4.out, C5.out, HBu.out⟩
      · skip
        have hl0 : l1 = false := hi'
        subst hl0
        have E0 := hideP e0
        have E1 := hideP e1
        have E2 := hideP e2
        have E3 := hideP e3
        have E4 := hideP e4
        have E5 := hideP e5
        have C4 := hideP c4
        have C5 := hideP c5
        have HKk := hideP hk
        have HBu := hideP hB
        clear e0 e1 e2 e3 e4 e5 c4 c5 hk hB hi' hall
        refine wpOpIn_step (o := _) rfl (fun K' hK0 => ?_)
        have hK' := hideP hK0
        clear hK0
        rw [HAct.out]
        unfold eachActF
        try simp only [List.getElem_toArray, List.getElem_cons_zero, List.getElem_cons_succ]
        go_simp
        exact hK'.out _ _ ⟨l0, true, l2, l3, l4, l5, v21, (.func (.func K) #[] #[]), v23, v24, v25, v26, g, rfl, by have := HKk.out; simp [one'] at this ⊢; omega, by rw [HAct.out]; rfl, E0.out, fun _ => rfl, E2.out, E3.out, E4.out, E5.out, fun h => ⟨rfl, (C4.out h).2.1, (C4.out h).2.2⟩, C5.out, HBu.out⟩
      · skip
        have hl0 : l2 = false := hi'
        subst hl0
        have E0 := hideP e0
        have E1 := hideP e1
        have E2 := hideP e2
        have E3 := hideP e3
        have E4 := hideP e4
        have E5 := hideP e5
        have C4 := hideP c4
        have C5 := hideP c5
        have HKk := hideP hk
        have HBu := hideP hB
        clear e0 e1 e2 e3 e4 e5 c4 c5 hk hB hi' hall
        refine wpOpIn_step (o := _) rfl (fun K' hK0 => ?_)
        have hK' := hideP hK0
        clear hK0
        rw [HAct.out]
        unfold eachActF
        try simp only [List.getElem_toArray, List.getElem_cons_zero, List.getElem_cons_succ]
        go_simp
        exact hK'.out _ _ ⟨l0, l1, true, l3, l4, l5, v21, v22, (frV x), v24, v25, v26, g, rfl, by have := HKk.out; simp [one'] at this ⊢; omega, by rw [HAct.out]; rfl, E0.out, E1.out, fun _ => rfl, E3.out, E4.out, E5.out, fun h => ⟨(C4.out h).1, rfl, (C4.out h).2.2⟩, C5.out, HBu.out⟩
      · skip
        have hl0 : l3 = false := hi'
        subst hl0
        have E0 := hideP e0
        have E1 := hideP e1
        have E2 := hideP e2
        have E3 := hideP e3
        have E4 := hideP e4
        have E5 := hideP e5
        have C4 := hideP c4
        have C5 := hideP c5
        have HKk := hideP hk
        have HBu := hideP hB
        clear e0 e1 e2 e3 e4 e5 c4 c5 hk hB hi' hall
        refine wpOpIn_step (o := _) rfl (fun K' hK0 => ?_)
        have hK' := hideP hK0
        clear hK0
        rw [HAct.out]
        unfold eachActF
        try simp only [List.getElem_toArray, List.getElem_cons_zero, List.getElem_cons_succ]
        go_simp
        exact hK'.out _ _ ⟨l0, l1, l2, true, l4, l5, v21, v22, v23, (frV y), v25, v26, g, rfl, by have := HKk.out; simp [one'] at this ⊢; omega, by rw [HAct.out]; rfl, E0.out, E1.out, E2.out, fun _ => rfl, E4.out, E5.out, fun h => ⟨(C4.out h).1, (C4.out h).2.1, rfl⟩, C5.out, HBu.out⟩
      · skip
        have hl0 : l4 = false := hi'
        subst hl0
        have h1 : l1 = true := hall ⟨1, .data⟩ ⟨_, rfl, by simp⟩ rfl
        have h2 : l2 = true := hall ⟨2, .data⟩ ⟨_, rfl, by simp⟩ rfl
        have h3 : l3 = true := hall ⟨3, .data⟩ ⟨_, rfl, by simp⟩ rfl
        obtain rfl := e1 h1
        obtain rfl := e2 h2
        obtain rfl := e3 h3
        have E0 := hideP e0
        have E1 := hideP e1
        have E2 := hideP e2
        have E3 := hideP e3
        have E4 := hideP e4
        have E5 := hideP e5
        have C4 := hideP c4
        have C5 := hideP c5
        have HKk := hideP hk
        have HBu := hideP hB
        have H1 := hideP h1
        have H2 := hideP h2
        have H3 := hideP h3
        clear h1 h2 h3
        clear e0 e1 e2 e3 e4 e5 c4 c5 hk hB hi' hall
        refine wpOpIn_step (o := _) rfl (fun K' hK0 => ?_)
        have hK' := hideP hK0
        clear hK0
        rw [HAct.out]
        unfold eachActF
        try simp only [List.getElem_toArray, List.getElem_cons_zero, List.getElem_cons_succ]
        go_simp
        refine ⟨trivial, ?_⟩
        refine (CallsIn.inRound l (callsIn_wide.2 (HK3.out _))).mono ?_
        rintro e w4 ⟨rfl, h4⟩
        try gi_wp2
        exact hK'.out _ _ ⟨l0, l1, l2, l3, true, l5, v21, (.func (.func K) #[] #[]), (frV x), (frV y), (frV z), v26, g, rfl, by have := HKk.out; simp [one'] at this ⊢; omega, by rw [HAct.out]; rfl, E0.out, fun _ => rfl, fun _ => rfl, fun _ => rfl, fun _ => rfl, fun h => absurd (C5.out h) (by simp), fun _ => ⟨H1.out, H2.out, H3.out⟩, fun _ => rfl, HBu.out.trans h4⟩
      · skip
        have hl0 : l5 = false := hi'
        subst hl0
        have h4 : l4 = true := hall ⟨4, .data⟩ ⟨_, rfl, by simp⟩ rfl
        obtain rfl := e4 h4
        have E0 := hideP e0
        have E1 := hideP e1
        have E2 := hideP e2
        have E3 := hideP e3
        have E4 := hideP e4
        have E5 := hideP e5
        have C4 := hideP c4
        have C5 := hideP c5
        have HKk := hideP hk
        have HBu := hideP hB
        have H4 := hideP h4
        clear h4
        clear e0 e1 e2 e3 e4 e5 c4 c5 hk hB hi' hall
        refine wpOpIn_step (o := _) rfl (fun K' hK0 => ?_)
        have hK' := hideP hK0
        clear hK0
        rw [HAct.out]
        unfold eachActF
        try simp only [List.getElem_toArray, List.getElem_cons_zero, List.getElem_cons_succ]
        go_simp
        exact hK'.out _ _ ⟨l0, l1, l2, l3, l4, true, v21, v22, v23, v24, (frV z), (.slice (some ⟨u.heap.size, 0, none⟩) 1 1), u.heap.size, rfl, by have := HKk.out; simp [one'] at this ⊢; omega, by rw [HAct.out]; rfl, E0.out, E1.out, E2.out, E3.out, fun _ => rfl, fun _ => ⟨rfl, FBox.new u z _⟩, C4.out, fun _ => H4.out, HBu.out.alloc _⟩
      · exfalso
        have h0 : l0 = true := hall ⟨0, .data⟩ ⟨_, rfl, by simp⟩ rfl
        have h4 : l4 = true := hall ⟨4, .chain⟩ ⟨_, rfl, by simp⟩ rfl
        have h5 : l5 = true := hall ⟨5, .data⟩ ⟨_, rfl, by simp⟩ rfl
        obtain ⟨h1, h2, h3⟩ := c4 h4
        rw [h0, h1, h2, h3, h4, h5] at hk
        simp [one'] at hk
      · exact Bool.noConfusion (show false = true from hall ⟨6, .data⟩ ⟨_, rfl, by simp⟩ rfl)
    case fin =>
      intro l act u h
      obtain ⟨l0, l1, l2, l3, l4, l5, v21, v22, v23, v24, v25, v26, g, rfl, hk, rfl, e0, e1, e2, e3, e4, e5, c4, c5, hB⟩ := h
      obtain ⟨rfl, rfl, rfl, rfl, rfl, rfl⟩ : l0 = true ∧ l1 = true ∧ l2 = true ∧ l3 = true ∧ l4 = true ∧ l5 = true := by
        cases l0 <;> cases l1 <;> cases l2 <;> cases l3 <;> cases l4 <;> cases l5 <;> first | exact ⟨rfl, rfl, rfl, rfl, rfl, rfl⟩ | (simp [one'] at hk)
      obtain rfl := e0 rfl
      obtain rfl := e1 rfl
      obtain rfl := e2 rfl
      obtain rfl := e3 rfl
      obtain rfl := e4 rfl
      obtain ⟨rfl, bz⟩ := e5 rfl
      clear e0 e1 e2 e3 e4 e5 c4 c5 hk
      have hvu := boxed_bl HV.out hB
      have hru := own_blF HR.out hB
      have hus : w.heap.size ≤ u.heap.size := by have := HBW.out.size; have := hB.size; omega
      refine wpAnyIn_ready (rs := [6]) (by kernel_rfl) (by simp) ?_
      refine AllReadyIn.cons (i := 6) (o := _) rfl (fun K' hK' => ?_) AllReadyIn.nil
      rw [if_pos (by rfl)]
      refine stepIn_append (Operand.tmp 21) (Operand.tmp 26) 28 rfl w.heap.size 34 i0 (.agg #[.int .i64 0, .int .i64 0, .bool false]) 3 24 Tryz.underlying28 hi hz0 hz1 hz2 rfl (by decide) v21 _ _ (by rw [HAct.out]; rfl) hru ⟨g, 0, none⟩ 1 1 (cellsF z) (by rw [HAct.out]; rfl) rfl bz.cells (oneF_cells _) (by unfold maxLen; omega) (by omega) hus ?_
      intro v' w5 hown' hgrow hat
      refine hK' _ _ ?_
      clear hK' K'
      obtain ⟨g', cap', rfl⟩ := ownsRow_succ hown'
      obtain ⟨hv5, hv6, hr6, hk6, hb6⟩ := boxed_appended hvu (by decide) hru hus (by omega) hown' hgrow
      have cv5 := hv5.cell
      have fv5 := hv5.frozen
      have HV6 := hideP hv6
      have HR6 := hideP hr6
      have HSP := hideP (span_appended (R := w0.heap.size) (v' := .slice (some ⟨g', 0, none⟩) ((opL op pre).length + 1) cap') hB hsW HG.out hgrow (Nat.lt_succ_self _))
      have HG' := hideP (show ∀ b, (Value.slice (some ⟨g', 0, none⟩) ((opL op pre).length + 1) cap').ownBlock = some b → b < w0.heap.size + 1 ∨ w3.heap.size ≤ b by
        intro b hb
        rcases hat with h | h
        · exact HG.out b (h.symm.trans hb)
        · rw [h] at hb
          cases hb
          exact .inr (by have := hB.size; omega))
      clear hv5 hv6 hr6 hown' hvu hru hat hpl
      rw [HAct.out]
      unfold eachActF
      refine wpAnyIn_ready (rs := [7]) (by kernel_rfl) (by simp) ?_
      refine AllReadyIn.cons (i := 7) (o := _) rfl (fun K' hK' => ?_) AllReadyIn.nil
      have HK4 := hideP hK'
      clear hK'
      try simp only [List.getElem_toArray, List.getElem_cons_zero, List.getElem_cons_succ]
      go_simp
      refine HK4.out _ _ ?_
      refine wpAnyIn_done (by kernel_rfl) ?_ _
      gi_wp2
      have hBf := hB.keeps w3.heap.size
      refine ⟨hBf.trans (hk6.from _), HSP.out, ⟨_, HV6.out, ?_, HG'.out⟩, ?_, HBW.out.trans ((hB.mono HBW.out.size).trans hb6), ?_⟩
      · have := HR6.out
        rw [opL_snoc, ← HZ.out]
        simpa [List.flatMap_append] using this
      · exact ((boxed_bl HD.out hB).kept hgrow ((boxed_bl HD.out hB).not_row (by decide) (own_blF HR.out hB))).other (by omega) _
      · have := hB.size; have := hgrow.size; simp; omega
  case done =>
    rintro D zs W hD rfl ⟨⟨v, hv, hrow, _⟩, _, hBW, hsW⟩ hKD
    have hc := hv.cell
    gi_wp2
    refine ⟨by simp, .inl ⟨_, _, rfl, run_takeDeferred hKD, ?_⟩⟩
    refine ⟨_, results_tmp rfl _ _ _, v, rfl, ?_, fun g hg => (hrow.lt g hg).1, hBW.trans (belowK_b (w := w) (Nat.le_refl _) W D _ _ (by omega) hKD rfl rfl)⟩
    have := ownsRow_putObj hrow (.deferred none) hKD rfl
    rw [← HM.out, opL_zip op xs ys m HM.out] at this
    exact Rw.of_own cellsF_len this
  case stop =>
    rintro D c pre W _ _ h _
    exact h.elim
theorem eachF (K : Nat) (op : Fr → Fr → Fr) (hK : ∀ a b w, Calls Tryz.prog K #[frV a, frV b] w fun e w' => e = .returned (frV (op a b)) ∧ Bl w w') (eg : ∀ args w, (callFunc K args).run Tryz.prog w = .ok (.enter K args) w)
    (va vb : Value) (xs ys : List Fr) (w : World) (ha : Rq 3 cellsF w va xs) (hb : Rq 3 cellsF w vb ys) (hl : xs.length ≤ 1000000) (hm : ys.length ≤ 1000000) :
    Calls Tryz.prog 93 #[va, vb, .func (.func K) #[] #[]] w fun e w' => ∃ u, e = .returned u ∧ Rw 3 cellsF w' u (List.zipWith op xs ys) ∧ Bl w w' :=
  (eachF' K op hK eg va vb xs ys w ha hb hl hm).mono fun _ _ ⟨u, h1, h2, _, h3⟩ => ⟨u, h1, h2, h3⟩
end Go.Proofs.YtljmggemdkfbiaaGreat
