/- SumLike: what is xored byte by byte. Written by genSu.py. -/
import Derived.Test.YtljmggemdkfbiaaDoorSu6
namespace Go.Proofs.YtljmggemdkfbiaaDoor
open Go.RowKit
set_option linter.unusedSimpArgs false
set_option linter.unusedVariables false

/-- The first k places of both xored, noughts behind. -/
def zipX (xs ys : List Nat) (n k : Nat) : List Nat := (xs.take k).zipWith (· ^^^ ·) (ys.take k) ++ List.replicate (n - k) 0
theorem zipX_zero (xs ys : List Nat) (n : Nat) : zipX xs ys n 0 = List.replicate n 0 := by simp [zipX]
theorem zipX_len {xs ys : List Nat} {n k : Nat} (hx : xs.length = n) (hy : ys.length = n) (hk : k ≤ n) : (zipX xs ys n k).length = n := by
  simp [zipX]; omega
theorem zipX_all {xs ys : List Nat} {n : Nat} (hx : xs.length = n) (hy : ys.length = n) : zipX xs ys n n = xs.zipWith (· ^^^ ·) ys := by
  unfold zipX
  rw [← hx, List.take_length, hx, ← hy, List.take_length]
  simp
theorem zipX_put {xs ys : List Nat} {n k x y : Nat} (hx : xs.length = n) (hy : ys.length = n) (hk : k < n) (h1 : xs[k]? = some x) (h2 : ys[k]? = some y) : (zipX xs ys n k).set k (x ^^^ y) = zipX xs ys n (k + 1) := by
  unfold zipX
  have hl : ((xs.take k).zipWith (· ^^^ ·) (ys.take k)).length = k := by simp; omega
  have hr : List.replicate (n - k) 0 = 0 :: List.replicate (n - (k + 1)) 0 := by rw [show n - k = (n - (k + 1)) + 1 by omega]; rfl
  rw [hr, List.set_append, if_neg (by omega), hl, Nat.sub_self, List.set_cons_zero]
  rw [List.take_add_one, List.take_add_one, h1, h2]
  rw [List.zipWith_append (by simp; omega)]
  simp
/-- A byte of a row that came in, in any later world. -/
theorem rq_at {w : World} {v : Value} {xs : List Nat} (h : Rq 1 cB w v xs) (h0 : 0 < xs.length) : ∃ b o cap, v = .slice (some ⟨b, o, none⟩) xs.length cap ∧ ∀ u, Bl w u → ∀ (k x : Nat), xs[k]? = some x → u.cell? ⟨b, o + k, none⟩ = some (.int .u8 (x : Int)) := by
  rcases h with ⟨p, cap, rfl, rfl, _⟩ | ⟨b, o, cap, rfl, _, hb, hX⟩
  · simp at h0
  · exact ⟨b, o, cap, rfl, fun u hu k x hx => (bl_cell hu _ _ hb).trans (byteAt hX hx (wr := w))⟩
theorem ByBox.of_own2 {w0 w : World} {g n c : Nat} {xs : List Nat} (h : OwnB w0 w (.slice (some ⟨g, 0, none⟩) n c) xs) : ByBox w0 w g c xs := by
  obtain ⟨hb, ho⟩ := h
  obtain rfl : n = xs.length := by
    rcases ho.2 with ⟨h3, _⟩ | ⟨_, _, _, h3, _⟩
    · cases h3
    · simp only [Value.slice.injEq] at h3
      exact h3.2.1
  have hl := ho.lt g rfl
  have hfz : ∀ j, w.frozen? ⟨g, j, none⟩ = false := fun j => ho.frozenAt j
  have hr := Rw.of_own cB_len ho
  refine ⟨hb, hl.1, hl.2, ?_, hfz, fun j x hx => ?_⟩
  · rcases hr with ⟨h3, _⟩ | ⟨b, o, cap2, e, hc, _⟩
    · cases h3
    · cases e
      exact hc
  · rcases hr with ⟨h3, _⟩ | ⟨b, o, cap2, e, _, _, hX⟩
    · cases h3
    · cases e
      have := hX j x hx 0 _ rfl
      simpa using this
theorem list_makeB {ops : Array Oper} {rest : List Oper} {o : Oper} {a : Act} {w : World} {Q : Exit → Act → World → Prop} (hg : o.guard = none) (l c : Operand) (hop : o.op = Op.makeSlice 22 l c) (n : Nat) (hl : a.eval l = .int .i64 n) (hc : a.eval c = .int .i64 n) (hn : n ≤ 100000)
    (h : ∀ w', OwnB w w' (.slice (some ⟨w.heap.size, 0, none⟩) n n) (List.replicate n 0) → wpList Tryd.prog ops Q rest (a.put o.dst (.slice (some ⟨w.heap.size, 0, none⟩) n n)) w') : wpList Tryd.prog ops Q (o :: rest) a w := by
  obtain ⟨i0, hi, hz0, hz1, hz2⟩ := info_B_ex
  refine wpList_make_full _ hg l c 22 hop w.heap.size 5 i0 (.int .u8 0) 1 Tryd.underlying22 hi hz0 hz1 .i64 .i64 n n n hl hc rfl rfl (by rw [hz2]; omega) (by unfold maxLen; omega) (Nat.le_refl _) ?_
  intro w' h1 h2
  refine h w' ⟨(Bl.refl w).grown h2 (Nat.le_refl _) (fun k e => by cases e), ?_⟩
  have e : (madeCells (Value.cells (.int .u8 0)) (n * 1)).toList = (List.replicate n 0).flatMap cB := by
    rw [flatB_map, Nat.mul_one, List.map_replicate]
    exact toList_madeCells_one _ _
  rw [e] at h1
  rw [List.length_replicate]
  exact h1
set_option maxRecDepth 100000 in
set_option maxHeartbeats 4000000 in
theorem walk_SumLike (va : Value) (xs : List Nat) (vb : Value) (ys : List Nat) (w : World) (h : ByIn w va xs) (k : ByIn w vb ys) (ht : HalfTab w) :
    Calls Tryd.prog 7 #[va, vb] w fun e w' => e = .returned (.bool true) ∧ Bl w w' := by
  have fm : Tryd.prog.follows .mixedOrders = true := by kernel_rfl
  have egO := enters_of Tryd.func9 (by kernel_rfl) rfl
  have egA := enters_of Tryd.func8 (by kernel_rfl) rfl
  obtain ⟨hr, hx, hl⟩ := h
  obtain ⟨kr, kx, kl⟩ := k
  obtain ⟨p, ca, rfl⟩ := rq_val hr
  obtain ⟨q, cb, rfl⟩ := rq_val kr
  have AW := hideP (fun u (hu : Bl w u) => awake11_any u (ht.later hu))
  obtain ⟨n, hn⟩ : ∃ n, n = xs.length := ⟨_, rfl⟩
  obtain ⟨m, hm⟩ : ∃ m, m = ys.length := ⟨_, rfl⟩
  rw [← hn] at hr hl ⊢
  rw [← hm] at kr kl ⊢
  by_cases h1 : 1000 < n
  · clear hr hx kr kx hn hm
    go_enter Tryd.func7, Tryd.ntmps7
    go_wp2_with fail
    refine (AW.out _ (Bl.refl _)).mono ?_
    rintro e w1 ⟨rfl, h1⟩
    go_wp2
    go_ret
    exact ⟨rfl, h1⟩
  by_cases h2 : n = m
  · subst h2
    have hn1 : n ≤ 1000 := by omega
    have HXL := hideP hn
    have HYL := hideP hm
    have HX := hideP hr
    have HY := hideP kr
    have HXB0 := hx
    have HYB0 := kx
    have OA := hideP (fun u (hu : Bl w u) => of_any _ _ u (hr.later hu) hx (by omega) (ht.later hu))
    have OB := hideP (fun u (hu : Bl w u) => of_any _ _ u (kr.later hu) kx (by omega) (ht.later hu))
    have O0 := hideP (fun u v (hu : Bl w u) (hq : Rq 1 cB u v (List.replicate n 0)) => of_any v _ u hq (by intro x hx; simp at hx; omega) (by simp; omega) (ht.later hu))
    have OZ := hideP (fun u v (hu : Bl w u) (hq : Rq 1 cB u v (xs.zipWith (· ^^^ ·) ys)) => of_any v _ u hq (by
      intro x hx
      obtain ⟨i, hi, rfl⟩ := List.mem_iff_getElem.1 hx
      rw [List.getElem_zipWith]
      exact Nat.xor_lt_two_pow (n := 8) (HXB0 _ (List.getElem_mem _)) (HYB0 _ (List.getElem_mem _))) (by simp; omega) (ht.later hu))
    have hA := sumOf_lt hx
    have hB := sumOf_lt kx
    have hZ0 : sumOf (List.replicate n 0) < 4294967296 := sumOf_lt (by intro x hx; simp at hx; omega)
    have hZ1 : sumOf (xs.zipWith (· ^^^ ·) ys) < 4294967296 := sumOf_lt (by
      intro x hx
      obtain ⟨i, hi, rfl⟩ := List.mem_iff_getElem.1 hx
      rw [List.getElem_zipWith]
      exact Nat.xor_lt_two_pow (n := 8) (HXB0 _ (List.getElem_mem _)) (HYB0 _ (List.getElem_mem _)))
    have HLK := sumOf_like (xs := xs) (ys := ys) (by omega)
    rw [← hn] at HLK
    clear HXB0 HYB0
    have HXB := hideP hx
    have HYB := hideP kx
    generalize sumOf xs = PA at *
    generalize sumOf ys = PB at *
    generalize sumOf (List.replicate n 0) = P0 at *
    generalize sumOf (xs.zipWith (· ^^^ ·) ys) = P1 at *
    have E1 := hideP (u32_xor_nat P1 P0 hZ1 hZ0)
    have E2 := hideP (u32_xor_nat PA PB hA hB)
    rw [HLK] at E1
    generalize PA ^^^ PB = PX at *
    clear hr kr ht hn hm hx kx hA hB hZ0 hZ1 HLK
    go_enter Tryd.func7, Tryd.ntmps7
    go_wp2_with (at_make; refine list_makeB rfl _ _ rfl n rfl rfl (by omega) ?_; intro w1 hown1)
    have BX0 := hideP (ByBox.of_own2 hown1)
    clear hown1
    obtain ⟨g, hg⟩ : ∃ g, g = w.heap.size := ⟨_, rfl⟩
    rw [← hg] at BX0 ⊢
    clear hg
    go_wp2_with fail
    go_loopw [23] (fun i wr => ∃ k : Nat, i = .int .i64 k ∧ k ≤ n ∧ ByBox w wr g n (zipX xs ys n k)) (fun i _ => n - (intOf i).toNat)
    case atStart => exact ⟨0, rfl, Nat.zero_le _, by rw [zipX_zero]; exact BX0.out⟩
    case round =>
      clear BX0
      obtain ⟨k, rfl, hk, hbx⟩ := hrel
      by_cases hlt : k < n
      · obtain ⟨x, hxk⟩ : ∃ x, xs[k]? = some x := ⟨_, List.getElem?_eq_getElem (by have := HXL.out; omega)⟩
        obtain ⟨y, hyk⟩ : ∃ y, ys[k]? = some y := ⟨_, List.getElem?_eq_getElem (by have := HYL.out; omega)⟩
        have hx8 := HXB.out x (List.mem_of_getElem? hxk)
        have hy8 := HYB.out y (List.mem_of_getElem? hyk)
        have EXY := hideP (u8_xor_nat x y hx8 hy8)
        have ZP := hideP (zipX_put HXL.out.symm HYL.out.symm hlt hxk hyk)
        have ZL := hideP (zipX_len (xs := xs) (ys := ys) HXL.out.symm HYL.out.symm hk)
        obtain ⟨b1, o1, c1, e1, CX1⟩ := rq_at HX.out (by have := HXL.out; omega)
        obtain ⟨b2, o2, c2, e2, CY1⟩ := rq_at HY.out (by have := HYL.out; omega)
        simp only [Value.slice.injEq] at e1 e2
        obtain ⟨rfl, _, rfl⟩ := e1
        obtain ⟨rfl, _, rfl⟩ := e2
        have CX := hideP (fun u (hu : Bl wr u) => CX1 u (hbx.bl.trans hu) k x hxk)
        have CY := hideP (fun u (hu : Bl wr u) => CY1 u (hbx.bl.trans hu) k y hyk)
        obtain ⟨z0, hz0⟩ : ∃ z0, (zipX xs ys n k)[k]? = some z0 := ⟨_, List.getElem?_eq_getElem (by rw [ZL.out]; exact hlt)⟩
        have CG := hideP (fun u (hu : Bl wr u) => (hbx.later hu).cl k z0 hz0)
        have FG := hideP (fun u (hu : Bl wr u) => (hbx.later hu).fr k)
        have BX := hideP hbx
        clear hbx hxk hyk hx8 hy8 CX1 CY1 hz0
        generalize x ^^^ y = z at *
        go_wp2_with fail
        refine (wpIn_wide (n := 8)).1 (region_q fm [some 26, some 27, some 28, some 29, some 30, some 31, some 32, some 33, some 34, some 35, some 36, some 37, none] (fun _ => false) 12 (by kernel_rfl) (by rfl)
          (fun j v u => match j with | 0 => v = .slice (some ⟨g, 0, none⟩) n n | 1 => v = .int .i64 k | 2 => v = .slice (some ⟨b1, o1, none⟩) n ca | 3 => v = .int .i64 k | 4 => v = .pointer (some ⟨b1, o1 + k, none⟩) | 5 => v = .int .u8 (x : Nat) | 6 => v = .slice (some ⟨b2, o2, none⟩) n cb | 7 => v = .int .i64 k | 8 => v = .pointer (some ⟨b2, o2 + k, none⟩) | 9 => v = .int .u8 (y : Nat) | 10 => v = .int .u8 (z : Nat) | 11 => v = .pointer (some ⟨g, k, none⟩) | _ => False)
          (fun j v u u' _ h => h) (fun vs u0 u => u = u0.setCell ⟨g, k, none⟩ (.int .u8 (z : Nat))) ?step ?still ?store ?fin)
        case step =>
          intro j o t act u ho hdt hpu hsz hu hfr hin
          have hj : j < 13 := (Array.getElem?_eq_some_iff.1 ho).1
          have cx := CX.out u hu
          have cy := CY.out u hu
          rcases (by omega : j = 0 ∨ j = 1 ∨ j = 2 ∨ j = 3 ∨ j = 4 ∨ j = 5 ∨ j = 6 ∨ j = 7 ∨ j = 8 ∨ j = 9 ∨ j = 10 ∨ j = 11 ∨ j = 12) with rfl | rfl | rfl | rfl | rfl | rfl | rfl | rfl | rfl | rfl | rfl | rfl | rfl
          · simp only [List.getElem?_toArray, List.getElem?_cons_zero, List.getElem?_cons_succ, Option.some.injEq] at ho
            subst ho
            obtain rfl := Option.some.inj hdt
            have i5 : act.eval (.tmp (5 : Nat)) = .slice (some ⟨g, 0, none⟩) n n := hfr 5 (by decide)
            exact plain_wp (by intro c h; cases h) (fun _ _ => trivial) (by simp only [execOp, i5, evalC, evalF, evalG]; simp [go_sem]) ⟨_, rfl, rfl, Bl.refl _⟩
          · simp only [List.getElem?_toArray, List.getElem?_cons_zero, List.getElem?_cons_succ, Option.some.injEq] at ho
            subst ho
            obtain rfl := Option.some.inj hdt
            have i6 : act.eval (.tmp (6 : Nat)) = .int .i64 k := hfr 6 (by decide)
            exact plain_wp (by intro c h; cases h) (fun _ _ => trivial) (by simp only [execOp, i6, evalC, evalF, evalG]; simp [go_sem]) ⟨_, rfl, rfl, Bl.refl _⟩
          · simp only [List.getElem?_toArray, List.getElem?_cons_zero, List.getElem?_cons_succ, Option.some.injEq] at ho
            subst ho
            obtain rfl := Option.some.inj hdt
            have i0 : act.eval (.tmp (0 : Nat)) = .slice (some ⟨b1, o1, none⟩) n ca := hfr 0 (by decide)
            exact plain_wp (by intro c h; cases h) (fun _ _ => trivial) (by simp only [execOp, i0, evalC, evalF, evalG]; simp [go_sem]) ⟨_, rfl, rfl, Bl.refl _⟩
          · simp only [List.getElem?_toArray, List.getElem?_cons_zero, List.getElem?_cons_succ, Option.some.injEq] at ho
            subst ho
            obtain rfl := Option.some.inj hdt
            have i6 : act.eval (.tmp (6 : Nat)) = .int .i64 k := hfr 6 (by decide)
            exact plain_wp (by intro c h; cases h) (fun _ _ => trivial) (by simp only [execOp, i6, evalC, evalF, evalG]; simp [go_sem]) ⟨_, rfl, rfl, Bl.refl _⟩
          · simp only [List.getElem?_toArray, List.getElem?_cons_zero, List.getElem?_cons_succ, Option.some.injEq] at ho
            subst ho
            obtain rfl := Option.some.inj hdt
            have i28 : (act.eval (.tmp (28 : Nat))) = .slice (some ⟨b1, o1, none⟩) n ca := hin ⟨2, .data⟩ (by simp) rfl 28 rfl
            have i29 : (act.eval (.tmp (29 : Nat))) = .int .i64 k := hin ⟨3, .data⟩ (by simp) rfl 29 rfl
            exact plain_wp (by intro c h; cases h) (fun _ _ => trivial) (by simp only [execOp, i28, i29]; simp [go_sem, hlt]) ⟨_, rfl, rfl, Bl.refl _⟩
          · simp only [List.getElem?_toArray, List.getElem?_cons_zero, List.getElem?_cons_succ, Option.some.injEq] at ho
            subst ho
            obtain rfl := Option.some.inj hdt
            have i30 : (act.eval (.tmp (30 : Nat))) = .pointer (some ⟨b1, o1 + k, none⟩) := hin ⟨4, .data⟩ (by simp) rfl 30 rfl
            exact plain_wp (by intro c h; cases h) (fun _ _ => trivial) (by simp only [execOp, i30]; simp [go_sem, cx]) ⟨_, rfl, rfl, Bl.refl _⟩
          · simp only [List.getElem?_toArray, List.getElem?_cons_zero, List.getElem?_cons_succ, Option.some.injEq] at ho
            subst ho
            obtain rfl := Option.some.inj hdt
            have i1 : act.eval (.tmp (1 : Nat)) = .slice (some ⟨b2, o2, none⟩) n cb := hfr 1 (by decide)
            exact plain_wp (by intro c h; cases h) (fun _ _ => trivial) (by simp only [execOp, i1, evalC, evalF, evalG]; simp [go_sem]) ⟨_, rfl, rfl, Bl.refl _⟩
          · simp only [List.getElem?_toArray, List.getElem?_cons_zero, List.getElem?_cons_succ, Option.some.injEq] at ho
            subst ho
            obtain rfl := Option.some.inj hdt
            have i6 : act.eval (.tmp (6 : Nat)) = .int .i64 k := hfr 6 (by decide)
            exact plain_wp (by intro c h; cases h) (fun _ _ => trivial) (by simp only [execOp, i6, evalC, evalF, evalG]; simp [go_sem]) ⟨_, rfl, rfl, Bl.refl _⟩
          · simp only [List.getElem?_toArray, List.getElem?_cons_zero, List.getElem?_cons_succ, Option.some.injEq] at ho
            subst ho
            obtain rfl := Option.some.inj hdt
            have i32 : (act.eval (.tmp (32 : Nat))) = .slice (some ⟨b2, o2, none⟩) n cb := hin ⟨6, .data⟩ (by simp) rfl 32 rfl
            have i33 : (act.eval (.tmp (33 : Nat))) = .int .i64 k := hin ⟨7, .data⟩ (by simp) rfl 33 rfl
            exact plain_wp (by intro c h; cases h) (fun _ _ => trivial) (by simp only [execOp, i32, i33]; simp [go_sem, hlt]) ⟨_, rfl, rfl, Bl.refl _⟩
          · simp only [List.getElem?_toArray, List.getElem?_cons_zero, List.getElem?_cons_succ, Option.some.injEq] at ho
            subst ho
            obtain rfl := Option.some.inj hdt
            have i34 : (act.eval (.tmp (34 : Nat))) = .pointer (some ⟨b2, o2 + k, none⟩) := hin ⟨8, .data⟩ (by simp) rfl 34 rfl
            exact plain_wp (by intro c h; cases h) (fun _ _ => trivial) (by simp only [execOp, i34]; simp [go_sem, cy]) ⟨_, rfl, rfl, Bl.refl _⟩
          · simp only [List.getElem?_toArray, List.getElem?_cons_zero, List.getElem?_cons_succ, Option.some.injEq] at ho
            subst ho
            obtain rfl := Option.some.inj hdt
            have i31 : (act.eval (.tmp (31 : Nat))) = .int .u8 (x : Nat) := hin ⟨5, .data⟩ (by simp) rfl 31 rfl
            have i35 : (act.eval (.tmp (35 : Nat))) = .int .u8 (y : Nat) := hin ⟨9, .data⟩ (by simp) rfl 35 rfl
            exact plain_wp (by intro c h; cases h) (fun _ _ => trivial) (by simp only [execOp, i31, i35]; simp [go_sem, EXY.out]) ⟨_, rfl, rfl, Bl.refl _⟩
          · simp only [List.getElem?_toArray, List.getElem?_cons_zero, List.getElem?_cons_succ, Option.some.injEq] at ho
            subst ho
            obtain rfl := Option.some.inj hdt
            have i26 : (act.eval (.tmp (26 : Nat))) = .slice (some ⟨g, 0, none⟩) n n := hin ⟨0, .data⟩ (by simp) rfl 26 rfl
            have i27 : (act.eval (.tmp (27 : Nat))) = .int .i64 k := hin ⟨1, .data⟩ (by simp) rfl 27 rfl
            exact plain_wp (by intro c h; cases h) (fun _ _ => trivial) (by simp only [execOp, i26, i27]; simp [go_sem, hlt]) ⟨_, rfl, rfl, Bl.refl _⟩
          · simp only [List.getElem?_toArray, List.getElem?_cons_zero, List.getElem?_cons_succ, Option.some.injEq] at ho
            subst ho
            cases hdt
        case still =>
          intro j o t act u0 u ho hdt hpu
          cases hpu
        case store =>
          intro o act u vs ho hsz hu hfr hin
          simp only [List.getElem?_toArray, List.getElem?_cons_zero, List.getElem?_cons_succ, Option.some.injEq] at ho
          subst ho
          obtain ⟨i36, k36⟩ : act.eval (.tmp (36 : Nat)) = vs 10 ∧ ((vs 10) = .int .u8 (z : Nat)) := hin 10 36 rfl rfl
          obtain ⟨i37, k37⟩ : act.eval (.tmp (37 : Nat)) = vs 11 ∧ ((vs 11) = .pointer (some ⟨g, k, none⟩)) := hin 11 37 rfl rfl
          rw [k37] at i37
          rw [k36] at i36
          have cg := CG.out u hu
          have fg := FG.out u hu
          exact skip_wp (by intro c h; cases h) (fun _ _ => trivial) (by simp only [execOp, i37, i36]; simp [go_sem, cg, fg]) ⟨rfl, rfl⟩
        case fin =>
          intro vs vb u0 u hu hin hps
          have a0 := hin 0 26 rfl
          have a1 := hin 1 27 rfl
          have a2 := hin 2 28 rfl
          have a3 := hin 3 29 rfl
          have a4 := hin 4 30 rfl
          have a5 := hin 5 31 rfl
          have a6 := hin 6 32 rfl
          have a7 := hin 7 33 rfl
          have a8 := hin 8 34 rfl
          have a9 := hin 9 35 rfl
          have a10 := hin 10 36 rfl
          have a11 := hin 11 37 rfl
          simp only [putL, Act.put, List.setIfInBounds_toArray, List.set_cons_zero, List.set_cons_succ, Nat.zero_add, Nat.reduceAdd, Nat.reduceBEq, Bool.or_false, Bool.or_true, Bool.false_or, Bool.true_or, Bool.false_eq_true, if_false, if_true, reduceIte, Nat.reduceEqDiff, beq_self_eq_true, Bool.or_self] at a0 a1 a2 a3 a4 a5 a6 a7 a8 a9 a10 a11 ⊢
          rw [if_pos (by decide)] at hps
          simp only [a0, a1, a2, a3, a4, a5, a6, a7, a8, a9, a10, a11]
          have BX3 := (BX.out.later hu).put (j := k) (by rw [ZL.out]; exact hlt) z
          rw [← hps, ZP.out] at BX3
          clear hps hin BX CG FG CX CY
          go_wp2_with fail
          go_roundw
          case rel => exact ⟨k + 1, by simp, hlt, BX3⟩
          case measure => simp [intOf]; omega
      · obtain rfl : n = k := by omega
        have hz := zipX_all HXL.out.symm HYL.out.symm
        rw [hz] at hbx
        have hzl : (xs.zipWith (· ^^^ ·) ys).length = n := by have := HXL.out; have := HYL.out; simp; omega
        have R0 := hbx.rq
        rw [hzl] at R0
        have O1 := hideP (fun u (hu : Bl wr u) => OZ.out u _ (hbx.bl.trans hu) (R0.later hu))
        have WU := hideP hbx.bl
        clear hz hzl hbx R0 OZ
        go_wp2_with fail
        refine (wpIn_wide (n := 8)).1 (region_g fm (fun x y => Bl x y) [some 39, some 40, some 41, some 42, some 43, some 44, some 45, some 46, some 47, some 48, some 49, some 50, some 51, some 52, some 53, some 54, some 4] (by kernel_rfl) (by rfl) ((Bl.refl _).drew) (fun h k => h.trans k)
        (fun j v u => match j with | 0 => v = .slice (some ⟨g, 0, none⟩) n n | 1 => v = .int .u32 (P1 : Nat) | 2 => v = .slice p n ca | 3 => v = .int .i64 n | 4 => ∃ g', v = .slice (some ⟨g', 0, none⟩) n n ∧ Rq 1 cB u (.slice (some ⟨g', 0, none⟩) n n) (List.replicate n 0) | 5 => v = .int .u32 (P0 : Nat) | 6 => v = .int .u32 (PX : Nat) | 7 => v = .slice p n ca | 8 => v = .int .u32 (PA : Nat) | 9 => v = .slice q n cb | 10 => v = .int .u32 (PB : Nat) | 11 => v = .int .u32 (PX : Nat) | 12 => v = .bool true | 13 => v = .bool true | 14 => v = .bool true | 15 => v = .bool true | 16 => v = .bool true | _ => False)
        (by
          intro j v u u' _ hb h
          split at h <;> first | exact h | (obtain ⟨g, e, h1⟩ := h; exact ⟨g, e, h1.later hb⟩))
        (by
            intro j o g b v u ho hg hf
            have hj : j < 17 := (Array.getElem?_eq_some_iff.1 ho).1
            rcases (by omega : j = 0 ∨ j = 1 ∨ j = 2 ∨ j = 3 ∨ j = 4 ∨ j = 5 ∨ j = 6 ∨ j = 7 ∨ j = 8 ∨ j = 9 ∨ j = 10 ∨ j = 11 ∨ j = 12 ∨ j = 13 ∨ j = 14 ∨ j = 15 ∨ j = 16) with rfl | rfl | rfl | rfl | rfl | rfl | rfl | rfl | rfl | rfl | rfl | rfl | rfl | rfl | rfl | rfl | rfl
            · simp only [List.getElem?_toArray, List.getElem?_cons_zero, List.getElem?_cons_succ, Option.some.injEq] at ho
              subst ho
              cases hg
            · simp only [List.getElem?_toArray, List.getElem?_cons_zero, List.getElem?_cons_succ, Option.some.injEq] at ho
              subst ho
              cases hg
            · simp only [List.getElem?_toArray, List.getElem?_cons_zero, List.getElem?_cons_succ, Option.some.injEq] at ho
              subst ho
              cases hg
            · simp only [List.getElem?_toArray, List.getElem?_cons_zero, List.getElem?_cons_succ, Option.some.injEq] at ho
              subst ho
              cases hg
            · simp only [List.getElem?_toArray, List.getElem?_cons_zero, List.getElem?_cons_succ, Option.some.injEq] at ho
              subst ho
              cases hg
            · simp only [List.getElem?_toArray, List.getElem?_cons_zero, List.getElem?_cons_succ, Option.some.injEq] at ho
              subst ho
              cases hg
            · simp only [List.getElem?_toArray, List.getElem?_cons_zero, List.getElem?_cons_succ, Option.some.injEq] at ho
              subst ho
              cases hg
            · simp only [List.getElem?_toArray, List.getElem?_cons_zero, List.getElem?_cons_succ, Option.some.injEq] at ho
              subst ho
              cases hg
            · simp only [List.getElem?_toArray, List.getElem?_cons_zero, List.getElem?_cons_succ, Option.some.injEq] at ho
              subst ho
              cases hg
            · simp only [List.getElem?_toArray, List.getElem?_cons_zero, List.getElem?_cons_succ, Option.some.injEq] at ho
              subst ho
              cases hg
            · simp only [List.getElem?_toArray, List.getElem?_cons_zero, List.getElem?_cons_succ, Option.some.injEq] at ho
              subst ho
              cases hg
            · simp only [List.getElem?_toArray, List.getElem?_cons_zero, List.getElem?_cons_succ, Option.some.injEq] at ho
              subst ho
              cases hg
            · simp only [List.getElem?_toArray, List.getElem?_cons_zero, List.getElem?_cons_succ, Option.some.injEq] at ho
              subst ho
              cases hg
            · simp only [List.getElem?_toArray, List.getElem?_cons_zero, List.getElem?_cons_succ, Option.some.injEq] at ho
              subst ho
              cases hg
            · simp only [List.getElem?_toArray, List.getElem?_cons_zero, List.getElem?_cons_succ, Option.some.injEq] at ho
              subst ho
              cases hg
              exact hf
            · simp only [List.getElem?_toArray, List.getElem?_cons_zero, List.getElem?_cons_succ, Option.some.injEq] at ho
              subst ho
              cases hg
            · simp only [List.getElem?_toArray, List.getElem?_cons_zero, List.getElem?_cons_succ, Option.some.injEq] at ho
              subst ho
              cases hg
            ) ?step ?fin)
        case step =>
          intro j o act u ho hsz hu hfr hin hnon
          have hj : j < 17 := (Array.getElem?_eq_some_iff.1 ho).1
          skip
          rcases (by omega : j = 0 ∨ j = 1 ∨ j = 2 ∨ j = 3 ∨ j = 4 ∨ j = 5 ∨ j = 6 ∨ j = 7 ∨ j = 8 ∨ j = 9 ∨ j = 10 ∨ j = 11 ∨ j = 12 ∨ j = 13 ∨ j = 14 ∨ j = 15 ∨ j = 16) with rfl | rfl | rfl | rfl | rfl | rfl | rfl | rfl | rfl | rfl | rfl | rfl | rfl | rfl | rfl | rfl | rfl
          · simp only [List.getElem?_toArray, List.getElem?_cons_zero, List.getElem?_cons_succ, Option.some.injEq] at ho
            subst ho
            have i5 : act.eval (.tmp (5 : Nat)) = .slice (some ⟨g, 0, none⟩) n n := hfr 5 (by decide)
            exact plain_wp (by intro c h; cases h) (fun _ _ => trivial) (by simp only [execOp, i5, evalC, evalF, evalG]; simp [go_sem]) ⟨_, rfl, rfl, Bl.refl _⟩
          · simp only [List.getElem?_toArray, List.getElem?_cons_zero, List.getElem?_cons_succ, Option.some.injEq] at ho
            subst ho
            have i39 : (act.eval (.tmp (39 : Nat))) = .slice (some ⟨g, 0, none⟩) n n := hin ⟨0, .data⟩ (by simp) rfl 39 rfl
            refine enter_wpS 9 #[.slice (some ⟨g, 0, none⟩) n n] (by intro c h; cases h) (fun _ _ => trivial) (by simp only [execOp, evalC, evalF, evalG, resolve, i39, List.map_toArray, List.map_cons, List.map_nil]; simp [invoke, egO, Result.andThen, go_sem]) (by intro h; cases h) (callsIn_wide.2 (O1.out u hu)) ?_
            rintro e w' ⟨rfl, rfl⟩
            exact ⟨_, rfl, _, rfl, rfl, Bl.refl _⟩
          · simp only [List.getElem?_toArray, List.getElem?_cons_zero, List.getElem?_cons_succ, Option.some.injEq] at ho
            subst ho
            have i0 : act.eval (.tmp (0 : Nat)) = .slice p n ca := hfr 0 (by decide)
            exact plain_wp (by intro c h; cases h) (fun _ _ => trivial) (by simp only [execOp, i0, evalC, evalF, evalG]; simp [go_sem]) ⟨_, rfl, rfl, Bl.refl _⟩
          · simp only [List.getElem?_toArray, List.getElem?_cons_zero, List.getElem?_cons_succ, Option.some.injEq] at ho
            subst ho
            have i41 : (act.eval (.tmp (41 : Nat))) = .slice p n ca := hin ⟨2, .data⟩ (by simp) rfl 41 rfl
            exact plain_wp (by intro c h; cases h) (fun _ _ => trivial) (by simp only [execOp, resolve, List.map_toArray, List.map_cons, List.map_nil, i41]; simp [invoke, builtin, Builtin.len_, Builtin.lenOf, Result.andThen, go_sem]) ⟨_, rfl, rfl, Bl.refl _⟩
          · simp only [List.getElem?_toArray, List.getElem?_cons_zero, List.getElem?_cons_succ, Option.some.injEq] at ho
            subst ho
            have i42 : (act.eval (.tmp (42 : Nat))) = .int .i64 n := hin ⟨3, .data⟩ (by simp) rfl 42 rfl
            obtain ⟨u', hr, hq⟩ := make_zeroB n (by omega) u
            exact plain_wp (by intro c h; cases h) (fun _ _ => trivial) (w' := u') (v := .slice (some ⟨u.heap.size, 0, none⟩) n n) (by simp only [execOp, i42]; rw [Sem.run_bind, hr]; rfl) ⟨_, rfl, ⟨u.heap.size, rfl, hq.rq⟩, hq.1⟩
          · simp only [List.getElem?_toArray, List.getElem?_cons_zero, List.getElem?_cons_succ, Option.some.injEq] at ho
            subst ho
            have i43 : ∃ g', (act.eval (.tmp (43 : Nat))) = .slice (some ⟨g', 0, none⟩) n n ∧ Rq 1 cB u (.slice (some ⟨g', 0, none⟩) n n) (List.replicate n 0) := hin ⟨4, .data⟩ (by simp) rfl 43 rfl
            obtain ⟨g0, hg0, hq⟩ := i43
            refine enter_wpS 9 #[.slice (some ⟨g0, 0, none⟩) n n] (by intro c h; cases h) (fun _ _ => trivial) (by simp only [execOp, evalC, evalF, evalG, resolve, hg0, List.map_toArray, List.map_cons, List.map_nil]; simp [invoke, egO, Result.andThen, go_sem]) (by intro h; cases h) (callsIn_wide.2 (O0.out u _ (WU.out.trans hu) hq)) ?_
            rintro e w' ⟨rfl, rfl⟩
            exact ⟨_, rfl, _, rfl, rfl, Bl.refl _⟩
          · simp only [List.getElem?_toArray, List.getElem?_cons_zero, List.getElem?_cons_succ, Option.some.injEq] at ho
            subst ho
            have i40 : (act.eval (.tmp (40 : Nat))) = .int .u32 (P1 : Nat) := hin ⟨1, .data⟩ (by simp) rfl 40 rfl
            have i44 : (act.eval (.tmp (44 : Nat))) = .int .u32 (P0 : Nat) := hin ⟨5, .data⟩ (by simp) rfl 44 rfl
            exact plain_wp (by intro c h; cases h) (fun _ _ => trivial) (by simp only [execOp, i40, i44]; simp [go_sem, E1.out]) ⟨_, rfl, rfl, Bl.refl _⟩
          · simp only [List.getElem?_toArray, List.getElem?_cons_zero, List.getElem?_cons_succ, Option.some.injEq] at ho
            subst ho
            have i0 : act.eval (.tmp (0 : Nat)) = .slice p n ca := hfr 0 (by decide)
            exact plain_wp (by intro c h; cases h) (fun _ _ => trivial) (by simp only [execOp, i0, evalC, evalF, evalG]; simp [go_sem]) ⟨_, rfl, rfl, Bl.refl _⟩
          · simp only [List.getElem?_toArray, List.getElem?_cons_zero, List.getElem?_cons_succ, Option.some.injEq] at ho
            subst ho
            have i46 : (act.eval (.tmp (46 : Nat))) = .slice p n ca := hin ⟨7, .data⟩ (by simp) rfl 46 rfl
            refine enter_wpS 9 #[.slice p n ca] (by intro c h; cases h) (fun _ _ => trivial) (by simp only [execOp, evalC, evalF, evalG, resolve, i46, List.map_toArray, List.map_cons, List.map_nil]; simp [invoke, egO, Result.andThen, go_sem]) (by intro h; cases h) (callsIn_wide.2 (OA.out u (WU.out.trans hu))) ?_
            rintro e w' ⟨rfl, rfl⟩
            exact ⟨_, rfl, _, rfl, rfl, Bl.refl _⟩
          · simp only [List.getElem?_toArray, List.getElem?_cons_zero, List.getElem?_cons_succ, Option.some.injEq] at ho
            subst ho
            have i1 : act.eval (.tmp (1 : Nat)) = .slice q n cb := hfr 1 (by decide)
            exact plain_wp (by intro c h; cases h) (fun _ _ => trivial) (by simp only [execOp, i1, evalC, evalF, evalG]; simp [go_sem]) ⟨_, rfl, rfl, Bl.refl _⟩
          · simp only [List.getElem?_toArray, List.getElem?_cons_zero, List.getElem?_cons_succ, Option.some.injEq] at ho
            subst ho
            have i48 : (act.eval (.tmp (48 : Nat))) = .slice q n cb := hin ⟨9, .data⟩ (by simp) rfl 48 rfl
            refine enter_wpS 9 #[.slice q n cb] (by intro c h; cases h) (fun _ _ => trivial) (by simp only [execOp, evalC, evalF, evalG, resolve, i48, List.map_toArray, List.map_cons, List.map_nil]; simp [invoke, egO, Result.andThen, go_sem]) (by intro h; cases h) (callsIn_wide.2 (OB.out u (WU.out.trans hu))) ?_
            rintro e w' ⟨rfl, rfl⟩
            exact ⟨_, rfl, _, rfl, rfl, Bl.refl _⟩
          · simp only [List.getElem?_toArray, List.getElem?_cons_zero, List.getElem?_cons_succ, Option.some.injEq] at ho
            subst ho
            have i47 : (act.eval (.tmp (47 : Nat))) = .int .u32 (PA : Nat) := hin ⟨8, .data⟩ (by simp) rfl 47 rfl
            have i49 : (act.eval (.tmp (49 : Nat))) = .int .u32 (PB : Nat) := hin ⟨10, .data⟩ (by simp) rfl 49 rfl
            exact plain_wp (by intro c h; cases h) (fun _ _ => trivial) (by simp only [execOp, i47, i49]; simp [go_sem, E2.out]) ⟨_, rfl, rfl, Bl.refl _⟩
          · simp only [List.getElem?_toArray, List.getElem?_cons_zero, List.getElem?_cons_succ, Option.some.injEq] at ho
            subst ho
            have i45 : (act.eval (.tmp (45 : Nat))) = .int .u32 (PX : Nat) := hin ⟨6, .data⟩ (by simp) rfl 45 rfl
            have i50 : (act.eval (.tmp (50 : Nat))) = .int .u32 (PX : Nat) := hin ⟨11, .data⟩ (by simp) rfl 50 rfl
            exact plain_wp (by intro c h; cases h) (fun _ _ => trivial) (by simp only [execOp, i45, i50, evalC, evalF, evalG]; simp [go_sem]) ⟨_, rfl, rfl, Bl.refl _⟩
          · simp only [List.getElem?_toArray, List.getElem?_cons_zero, List.getElem?_cons_succ, Option.some.injEq] at ho
            subst ho
            have i51 : (act.eval (.tmp (51 : Nat))) = .bool true := hin ⟨12, .data⟩ (by simp) rfl 51 rfl
            exact plain_wp (by intro c h; cases h) (fun _ _ => trivial) (by simp only [execOp, i51, evalC, evalF, evalG]; simp [go_sem]) ⟨_, rfl, rfl, Bl.refl _⟩
          · simp only [List.getElem?_toArray, List.getElem?_cons_zero, List.getElem?_cons_succ, Option.some.injEq] at ho
            subst ho
            refine enter_wpS 8 #[] (by intro c h; cases h) (fun _ _ => trivial) (by simp only [execOp, evalC, evalF, evalG, resolve, List.map_nil, List.map_toArray, List.map_cons, List.map_nil]; simp [invoke, egA, Result.andThen, go_sem]) (by intro h; cases h) (callsIn_wide.2 (AW.out u (WU.out.trans hu))) ?_
            rintro e w' ⟨rfl, hb⟩
            exact ⟨_, rfl, _, rfl, rfl, hb⟩
          · simp only [List.getElem?_toArray, List.getElem?_cons_zero, List.getElem?_cons_succ, Option.some.injEq] at ho
            subst ho
            have i52 : (act.eval (.tmp (52 : Nat))) = .bool true := hin ⟨13, .data⟩ (by simp) rfl 52 rfl
            have i53 : (act.eval (.tmp (53 : Nat))) = .bool true := hin ⟨14, .data⟩ (by simp) rfl 53 rfl
            exact plain_wp (by intro c h; cases h) (fun _ _ => trivial) (by simp only [execOp, i52, i53, evalC, evalF, evalG]; simp [go_sem]) ⟨_, rfl, rfl, Bl.refl _⟩
          · simp only [List.getElem?_toArray, List.getElem?_cons_zero, List.getElem?_cons_succ, Option.some.injEq] at ho
            subst ho
            have i54 : (act.eval (.tmp (54 : Nat))) = .bool true := hin ⟨15, .data⟩ (by simp) rfl 54 rfl
            exact plain_wp (by intro c h; cases h) (fun _ _ => trivial) (by simp only [execOp, i54, evalC, evalF, evalG]; simp [go_sem]) ⟨_, rfl, rfl, Bl.refl _⟩
        case fin =>
          intro vs u hu hin hnon
          have a0 := hin 0 39 rfl
          have a1 := hin 1 40 rfl
          have a2 := hin 2 41 rfl
          have a3 := hin 3 42 rfl
          have a4 := hin 4 43 rfl
          have a5 := hin 5 44 rfl
          have a6 := hin 6 45 rfl
          have a7 := hin 7 46 rfl
          have a8 := hin 8 47 rfl
          have a9 := hin 9 48 rfl
          have a10 := hin 10 49 rfl
          have a11 := hin 11 50 rfl
          have a12 := hin 12 51 rfl
          have a13 := hin 13 52 rfl
          have a14 := hin 14 53 rfl
          have a15 := hin 15 54 rfl
          have a16 := hin 16 4 rfl
          simp only [putL, Act.put, List.setIfInBounds_toArray, List.set_cons_zero, List.set_cons_succ, Nat.zero_add, Nat.reduceAdd, if_true, reduceIte] at a0 a1 a2 a3 a4 a5 a6 a7 a8 a9 a10 a11 a12 a13 a14 a15 a16 ⊢
          simp only [a0, a1, a2, a3, a5, a6, a7, a8, a9, a10, a11, a12, a13, a14, a15, a16]
          clear hin hnon
          go_wp2
          go_ret
          exact ⟨rfl, WU.out.trans hu⟩
  · have h3 : ((n : Int) != (m : Int)) = true := by
      have h0 : ¬ ((n : Int) = (m : Int)) := by omega
      simpa using h0
    clear hr hx kr kx hn hm
    go_enter Tryd.func7, Tryd.ntmps7
    go_wp2_with fail
    refine (AW.out _ (Bl.refl _)).mono ?_
    rintro e w1 ⟨rfl, h1⟩
    go_wp2
    go_ret
    exact ⟨rfl, h1⟩
end Go.Proofs.YtljmggemdkfbiaaDoor
