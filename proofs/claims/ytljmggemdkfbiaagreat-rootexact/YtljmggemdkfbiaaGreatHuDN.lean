/- Contract of house's fold, of enclosed numbers (layer 8). Written by genHu.py. -/
import Derived.Test.YtljmggemdkfbiaaGreatHuLN
import Derived.Test.YtljmggemdkfbiaaGreatTrAN
namespace Go.Proofs.YtljmggemdkfbiaaGreat
open Go.RowKit Go.Shelf
set_option linter.unusedSimpArgs false
set_option linter.unusedVariables false
attribute [local go_sem] Oper.semAt_some

theorem Box.but {w w' : World} {b : Nat} {x : En} {S : Nat → Prop} (h : Box w b x) (k : But S w w') (hs : ¬ S b) : Box w' b x := by
  obtain ⟨c0, c1, c2, c3, f0, f1, f2, f3, lt⟩ := h
  refine ⟨(k.cell _ _ lt hs).trans c0, (k.cell _ _ lt hs).trans c1, (k.cell _ _ lt hs).trans c2, (k.cell _ _ lt hs).trans c3, (k.froz _ _ lt hs).trans f0, (k.froz _ _ lt hs).trans f1, (k.froz _ _ lt hs).trans f2, (k.froz _ _ lt hs).trans f3, Nat.lt_of_lt_of_le lt k.size⟩
theorem Box.setc {w : World} {b g : Nat} {x : En} (h : Box w b x) (hne : b ≠ g) (vs : List Value) (o : Nat) : Box (w.setCells g o vs) b x :=
  h.but (S := fun i => i = g) (but_setCells (S := fun i => i = g) (b := g) rfl vs o w w (But.refl _ _)) hne
/-- A row from a place on, as the program takes it. -/
theorem Tryz.restN (b n cap lo : Nat) (w : World) (h1 : lo ≤ n) (h3 : n ≤ cap) (h4 : lo < cap) : (Instr.sliceAt 46 (.slice (some ⟨b, 0, none⟩) n cap) (some (.int .i64 lo)) none none).run Tryz.prog w = .ok (.slice (some ⟨b, lo * 4, none⟩) (n - lo) (cap - lo)) w := by
  have hu : Tryz.prog.underlying 46 = some (.slice (Tryz.prog.elem 46)) := by kernel_rfl
  obtain ⟨i0, hi0, hz0, hz1, hz2⟩ := info_parts Tryz.info_N
  have he : Tryz.prog.elem 46 = 52 := by kernel_rfl
  rw [run_sliceAt_slice (h := hu), run_slice_l (ht := hu) (h0 := by omega) (h1 := by omega), he]
  have hcm : ¬ cap = lo := by omega
  have hcm' : ¬ cap ≤ lo := by omega
  simp [sizeOf, typeInfo, hi0, sliced, Result.andThen, hz1, hcm, hcm', Addr.add]
  omega
theorem Tryz.info_TN : (Tryz.prog.info? 46).map (fun i => (i.zero, i.size, i.bytes)) = some (some (.slice none 0 0), 1, 24) := by kernel_rfl
/-- The rows behind one, as the program takes them. -/
theorem Tryz.rowsN (b n cap lo : Nat) (z : Int) (hz : z = lo) (h1 : lo ≤ n) (h3 : n ≤ cap) : ∃ p, (∀ w, (Instr.sliceAt 166 (.slice (some ⟨b, 0, none⟩) n cap) (some (.int .i64 z)) none none).run Tryz.prog w = .ok (.slice p (n - lo) (cap - lo)) w) ∧ (lo < n → p = some ⟨b, lo, none⟩) := by
  subst hz
  have hu : Tryz.prog.underlying 166 = some (.slice (Tryz.prog.elem 166)) := by kernel_rfl
  obtain ⟨i0, hi0, hz0, hz1, hz2⟩ := info_parts Tryz.info_TN
  have he : Tryz.prog.elem 166 = 46 := by kernel_rfl
  by_cases hc : lo < cap
  · refine ⟨some ⟨b, lo, none⟩, fun w => ?_, fun _ => rfl⟩
    rw [run_sliceAt_slice (h := hu), run_slice_l (ht := hu) (h0 := by omega) (h1 := by omega), he]
    have hcm : ¬ cap = lo := by omega
    have hcm' : ¬ cap ≤ lo := by omega
    simp [sizeOf, typeInfo, hi0, sliced, Result.andThen, hz1, hcm, hcm', Addr.add]
    omega
  · refine ⟨some ⟨b, 0, none⟩, fun w => ?_, fun h => by omega⟩
    rw [run_sliceAt_slice (h := hu), run_slice_l (ht := hu) (h0 := by omega) (h1 := by omega), he]
    have hcm : cap = lo := by omega
    have hcm' : cap ≤ lo := by omega
    simp [sizeOf, typeInfo, hi0, sliced, Result.andThen, hz1, hcm, Addr.add]
theorem Tryz.sizeN : (Tryz.prog.info? 52).map (·.size) = some 4 := by kernel_rfl
set_option maxRecDepth 100000 in
set_option maxHeartbeats 4000000 in
theorem hFoldN (H hc : Nat) (B cp : Nat → Nat) (n m k : Nat) (a : Nat → Nat → En) (w : World) (h : Tbl 4 cellsN w H B cp n m a) (hk : k < n) (hnm : n ≤ m) (hm : m ≤ 1000) (hcap : n ≤ hc) :
    Calls Tryz.prog 136 #[.slice (some ⟨H, 0, none⟩) n hc, .int .i64 k] w fun e w' => (∃ v, e = .returned v) ∧ Tbl 4 cellsN w' H B cp n m (foldStep kdN m k (lowN (a k k)) a) ∧ But (InT B n) w w' := by
  have fm : Tryz.prog.follows .mixedOrders = true := by kernel_rfl
  have egS := enters_of Tryz.func208 (by kernel_rfl) rfl
  have SZ := hideP Tryz.sizeN
  obtain ⟨i0, hi, hz0, hz1, hz2⟩ := info_parts Tryz.info_N
  obtain ⟨j0, hji, jz0, jz1, jz2⟩ := info_parts Tryz.info_I
  have hkm : k ≤ m := by omega
  have hb := h.blt k hk
  have hdr := h.hdr k hk
  have hck := h.cap k hk
  have XC0 := h.cells k k hk (by omega)
  have hpart := h.part (i := k) (k := k) hk hkm
  obtain ⟨b, hbe⟩ : ∃ b, b = B k := ⟨_, rfl⟩
  obtain ⟨ck, hce⟩ : ∃ ck, ck = cp k := ⟨_, rfl⟩
  rw [← hbe] at hb hdr hpart XC0
  rw [← hce] at hdr hck hpart
  obtain ⟨l, hl⟩ : ∃ l, l = m - k := ⟨_, rfl⟩
  obtain ⟨cx, hcx⟩ : ∃ cx, cx = ck - k := ⟨_, rfl⟩
  have hl1 : 0 < l := by omega
  have hl2 : l ≤ 1000 := by omega
  have hlc : l ≤ cx := by omega
  have sl := fun u => Tryz.restN b m ck k u hkm hck (by omega)
  rw [← hl, ← hcx] at sl hpart
  obtain ⟨pr, spr, hpe⟩ := Tryz.rowsN H n hc (k + 1) ((k : Int) + 1) (by omega) (by omega) hcap
  have HLL := hideP hl
  have HBE := hideP hbe
  obtain ⟨x, hx⟩ : ∃ x, x = a k k := ⟨_, rfl⟩
  obtain ⟨p, hp⟩ : ∃ p, p = pH kdN m k (lowN (a k k)) a := ⟨_, rfl⟩
  obtain ⟨y, hy⟩ : ∃ y, y = subE x p := ⟨_, rfl⟩
  obtain ⟨q, hq⟩ : ∃ q, q = dotN (tailH m k (vH kdN m k (lowN (a k k)) a)) (tailH m k (vH kdN m k (lowN (a k k)) a)) := ⟨_, rfl⟩
  have HQ := hideP hq
  have XT := hideP (tail_consH (a k) (show k < m by omega))
  have VT := hideP (show tailH m k (vH kdN m k (lowN (a k k)) a) = y :: (List.range (m - k - 1)).map fun j => a k (k + 1 + j) by
    rw [tail_consH _ (show k < m by omega)]
    congr 1
    · unfold vH; rw [if_pos rfl, hy, hx, hp]; rfl
    · refine List.map_congr_left fun j _ => ?_
      unfold vH; rw [if_neg (by omega)])
  have SUB := hideP (fun u => by have := esub_any x p u; rw [← hy] at this; exact this)
  have AW := hideP (show Calls Tryz.prog 154 #[.slice (some ⟨b, k * 4, none⟩) l cx] w fun e w' => e = .returned (enV p) ∧ Bl w w' from by
    have := hAwayN (.slice (some ⟨b, k * 4, none⟩) l cx) (tailH m k (a k)) (a k k) w hpart (by rw [tail_len]; omega) (by rw [tail_get _ (by omega)]; rfl)
    rw [hp]
    exact this)
  have HP := hideP hp
  have HX := hideP hx
  have XC0' := hideP (show ∀ i u, (cellsN x)[i]? = some u → w.cell? ⟨b, k * 4 + i, none⟩ = some u by rw [hx]; exact XC0)
  have hl0 : (tailH m k (a k)).length = l := by rw [tail_len, hl]
  obtain ⟨cs, hcs⟩ : ∃ cs, cs = (tailH m k (a k)).flatMap cellsN := ⟨_, rfl⟩
  have hcl : cs.length = l * 4 := by rw [hcs, flat_len cellsN_len, hl0]
  have one : ∀ v ∈ cs, v.oneCell' = true := by rw [hcs]; exact flat_one oneN_cells _
  have SRC := hideP (show ∀ (j : Nat) u, cs[j]? = some u → w.cell? ((⟨b, k * 4, none⟩ : Addr).add j) = some u by
    rw [hcs]
    rcases hpart with ⟨_, _, _, e, _⟩ | ⟨b', o', c', e, _, _, hx⟩
    · rw [e] at hl0; simp at hl0; omega
    · simp only [Value.slice.injEq, Option.some.injEq, Addr.mk.injEq] at e
      obtain ⟨⟨rfl, rfl, _⟩, _, _⟩ := e
      exact flat_cells cellsN_len hx)
  have HCS := hideP hcs
  have HH := hideP h
  clear h hl hcx hbe hce hx hp hy hq XC0 hpart hcs hl0
  go_enter Tryz.func136, Tryz.ntmps136
  go_wp2_with fail
  refine AW.out.mono ?_
  rintro e w1 ⟨rfl, h1⟩
  obtain ⟨W1, hW1⟩ : ∃ W1, W1 = w1.alloc (.cells #[.int .i64 p.v, .int .i64 p.l, .int .i64 p.h, .bool p.bad] 52) := ⟨_, rfl⟩
  have b1 : Bl w1 W1 := by rw [hW1]; exact (Bl.refl _).alloc _
  have k1 := Box.new w1 p 52
  rw [← hW1] at k1
  have hs1 : W1.heap.size = w1.heap.size + 1 := by rw [hW1]; simp
  have wW1 : Bl w W1 := h1.trans b1
  have HW1 := hideP hW1
  clear hW1 AW hdr
  go_wp2_with (first | (at_make; rw [← HW1.out]; refine wpList_make_full _ rfl _ _ 46 rfl W1.heap.size 52 i0 (.agg #[.int .i64 0, .int .i64 0, .int .i64 0, .bool false]) 4 Tryz.underlying46 hi hz0 hz1 .i64 .i64 _ _ l rfl rfl (by simp) (by simp) (by rw [hz2]; omega) (by unfold maxLen; omega) (Nat.le_refl _) ?_; intro w2 hown2 hgrow2; obtain ⟨g, hgz⟩ : ∃ g, g = W1.heap.size := ⟨_, rfl⟩; rw [← hgz] at hown2 ⊢; have HG := hideP hgz; clear hgz; have h2 : Bl W1 w2 := ⟨hgrow2.os, hgrow2.tape, hgrow2.output, hgrow2.size, fun k hk => hgrow2.block k hk nofun⟩; have hg2 := (hown2.lt g rfl).2; have CPY := hideP (RwZ.copy cellsN_len hown2 (xs := tailH m k (a k)) (by rw [tail_len, HLL.out]) hl1); rw [← HCS.out] at CPY; clear hown2 hgrow2) | (show wpList _ _ _ (Oper.mk _ (Op.call { callee := .builtin .copy, args := _, argTypes := _ }) _ _ _ _ :: _) _ _; refine wpList_copy_s rfl _ _ _ _ rfl 52 Tryz.underlying46 4 SZ.out g 0 l l ⟨b, k * 4, none⟩ l cx rfl rfl l cs (Nat.min_self _) hcl (fun j u hu => by have := SRC.out j u hu; have e := add_off (⟨b, k * 4, none⟩ : Addr) j rfl; rw [e] at this ⊢; exact (bl_cell (wW1.trans h2) _ _ hb).trans this) CPY.out.2.1 (fun j _ => CPY.out.2.2 j) one ?_; intro w3 hw3))
  have VR := hideP (show RwZ 4 cellsN w3 w.heap.size (.slice (some ⟨g, 0, none⟩) l l) (tailH m k (a k)) by rw [hw3.out]; have := CPY.out.1; rw [Nat.zero_mul] at this; rw [HG.out] at this ⊢; exact this.base wW1.size)
  have hgw : w.heap.size ≤ g := by rw [HG.out]; exact wW1.size
  have w03 := hideP (show Bl w w3 by rw [hw3.out]; exact bl_setCells (wW1.trans h2) hgw cs 0)
  have hg3 : g < w3.heap.size := by rw [hw3.out, setCells_size]; exact hg2
  have hb3 : b < w3.heap.size := Nat.lt_of_lt_of_le hb w03.out.size
  have kp3 : Box w3 w1.heap.size p := by rw [hw3.out]; exact (k1.later h2).setc (by rw [HG.out]; omega) _ _
  have XC := hideP (show ∀ i u, (cellsN x)[i]? = some u → w3.cell? ⟨b, k * 4 + i, none⟩ = some u from fun i u hu => (bl_cell w03.out _ _ hb).trans (XC0'.out i u hu))
  have GC := hideP (show ∀ i u, (cellsN x)[i]? = some u → w3.cell? ⟨g, i, none⟩ = some u from fun i u hu => by
    obtain ⟨g', c', e, _, _, _, _, hx⟩ := VR.out
    cases e
    have := hx 0 (a k k) (by rw [tail_get _ (by rw [← HLL.out]; exact hl1)]; rfl) i u (by rw [← HX.out]; exact hu)
    rwa [Nat.zero_mul, Nat.zero_add] at this)
  have GF := hideP (show ∀ i, w3.frozen? ⟨g, i, none⟩ = false from fun i => by
    obtain ⟨g', c', e, _, _, _, hf, _⟩ := VR.out
    cases e
    exact hf i)
  have GI := hideP (show ¬ InT B n g from by
    rintro ⟨i, hi', e⟩
    have := HH.out.blt i hi'
    omega)
  clear CPY hw3 SRC k1

  refine (wpIn_wide (n := 8)).1 (region_q fm [some 25, some 26, some 27, some 28, some 29, some 30, some 31, some 32, none] (fun _ => false) 8 (by kernel_rfl) (by rfl)
    (fun j v u => match j with | 0 => v = .slice (some ⟨g, 0, none⟩) l l | 1 => v = .slice (some ⟨b, k * 4, none⟩) l cx | 2 => v = .pointer (some ⟨b, k * 4, none⟩) | 3 => v = enV x | 4 => v = .iface 52 (enV x) | 5 => v = enV p | 6 => v = enV y | 7 => v = .pointer (some ⟨g, 0, none⟩) | _ => False)
    (fun j v u u' _ h => h) (fun vs u0 u => u = u0.setCells g 0 (cellsN y)) ?step ?still ?store ?fin)
  case step =>
    intro j o t act u ho hdt hpu hsz hu hfr hin
    have hj : j < 9 := (Array.getElem?_eq_some_iff.1 ho).1
    obtain ⟨c0, c1, c2, c3, f0, f1, f2, f3, ltp⟩ := kp3.later hu
    have x0 : u.cell? ⟨b, k * 4, none⟩ = some (.int .i64 x.v) := (bl_cell hu _ _ hb3).trans (XC.out 0 _ rfl); have x1 : u.cell? ⟨b, k * 4 + 1, none⟩ = some (.int .i64 x.l) := (bl_cell hu _ _ hb3).trans (XC.out 1 _ rfl); have x2 : u.cell? ⟨b, k * 4 + 2, none⟩ = some (.int .i64 x.h) := (bl_cell hu _ _ hb3).trans (XC.out 2 _ rfl); have x3 : u.cell? ⟨b, k * 4 + 3, none⟩ = some (.bool x.bad) := (bl_cell hu _ _ hb3).trans (XC.out 3 _ rfl)
    rcases (by omega : j = 0 ∨ j = 1 ∨ j = 2 ∨ j = 3 ∨ j = 4 ∨ j = 5 ∨ j = 6 ∨ j = 7 ∨ j = 8) with rfl | rfl | rfl | rfl | rfl | rfl | rfl | rfl | rfl
    · simp only [List.getElem?_toArray, List.getElem?_cons_zero, List.getElem?_cons_succ, Option.some.injEq] at ho
      subst ho
      obtain rfl := Option.some.inj hdt
      have i6 : act.eval (.tmp (6 : Nat)) = .slice (some ⟨g, 0, none⟩) l l := hfr 6 (by decide)
      exact plain_wp (by intro c h; cases h) (fun _ _ => trivial) (by simp only [execOp, i6, evalC, evalF, evalG]; simp [go_sem]) ⟨_, rfl, rfl, Bl.refl _⟩
    · simp only [List.getElem?_toArray, List.getElem?_cons_zero, List.getElem?_cons_succ, Option.some.injEq] at ho
      subst ho
      obtain rfl := Option.some.inj hdt
      have i4 : act.eval (.tmp (4 : Nat)) = .slice (some ⟨b, k * 4, none⟩) l cx := hfr 4 (by decide)
      exact plain_wp (by intro c h; cases h) (fun _ _ => trivial) (by simp only [execOp, i4, evalC, evalF, evalG]; simp [go_sem]) ⟨_, rfl, rfl, Bl.refl _⟩
    · simp only [List.getElem?_toArray, List.getElem?_cons_zero, List.getElem?_cons_succ, Option.some.injEq] at ho
      subst ho
      obtain rfl := Option.some.inj hdt
      have i26 : (act.eval (.tmp (26 : Nat))) = .slice (some ⟨b, k * 4, none⟩) l cx := hin ⟨1, .data⟩ (by simp) rfl 26 rfl
      exact plain_wp (by intro c h; cases h) (fun _ _ => trivial) (by simp only [execOp, i26, evalC, evalF, evalG]; simp [go_sem, c0, c1, c2, c3, x0, x1, x2, x3, hl1]) ⟨_, rfl, rfl, Bl.refl _⟩
    · simp only [List.getElem?_toArray, List.getElem?_cons_zero, List.getElem?_cons_succ, Option.some.injEq] at ho
      subst ho
      obtain rfl := Option.some.inj hdt
      have i27 : (act.eval (.tmp (27 : Nat))) = .pointer (some ⟨b, k * 4, none⟩) := hin ⟨2, .data⟩ (by simp) rfl 27 rfl
      exact plain_wp (by intro c h; cases h) (fun _ _ => trivial) (by simp only [execOp, i27, evalC, evalF, evalG]; simp [go_sem, c0, c1, c2, c3, x0, x1, x2, x3, hl1]) ⟨_, rfl, rfl, Bl.refl _⟩
    · simp only [List.getElem?_toArray, List.getElem?_cons_zero, List.getElem?_cons_succ, Option.some.injEq] at ho
      subst ho
      obtain rfl := Option.some.inj hdt
      have i28 : (act.eval (.tmp (28 : Nat))) = enV x := hin ⟨3, .data⟩ (by simp) rfl 28 rfl
      exact plain_wp (by intro c h; cases h) (fun _ _ => trivial) (by simp only [execOp, i28, evalC, evalF, evalG]; simp [go_sem, c0, c1, c2, c3, x0, x1, x2, x3, hl1]) ⟨_, rfl, rfl, Bl.refl _⟩
    · simp only [List.getElem?_toArray, List.getElem?_cons_zero, List.getElem?_cons_succ, Option.some.injEq] at ho
      subst ho
      obtain rfl := Option.some.inj hdt
      have i5 : act.eval (.tmp (5 : Nat)) = .pointer (some ⟨w1.heap.size, 0, none⟩) := hfr 5 (by decide)
      exact plain_wp (by intro c h; cases h) (fun _ _ => trivial) (by simp only [execOp, i5, evalC, evalF, evalG]; simp [go_sem, c0, c1, c2, c3, x0, x1, x2, x3, hl1]) ⟨_, rfl, rfl, Bl.refl _⟩
    · simp only [List.getElem?_toArray, List.getElem?_cons_zero, List.getElem?_cons_succ, Option.some.injEq] at ho
      subst ho
      obtain rfl := Option.some.inj hdt
      have i29 : (act.eval (.tmp (29 : Nat))) = .iface 52 (enV x) := hin ⟨4, .data⟩ (by simp) rfl 29 rfl
      have i30 : (act.eval (.tmp (30 : Nat))) = enV p := hin ⟨5, .data⟩ (by simp) rfl 30 rfl
      have iv := Tryz.mSubN
      refine enter_wp 208 #[enV x, enV p] (by intro c h; cases h) (fun _ _ => trivial) (by simp only [execOp, evalC, evalF, evalG, resolve, i29, i30, List.map_toArray, List.map_cons, List.map_nil]; simp [invoke, iv, egS, Result.andThen, go_sem]) (by intro h; cases h) (callsIn_wide.2 (SUB.out u)) ?_
      rintro e w' ⟨rfl, hb⟩
      exact ⟨_, rfl, _, rfl, rfl, hb⟩
    · simp only [List.getElem?_toArray, List.getElem?_cons_zero, List.getElem?_cons_succ, Option.some.injEq] at ho
      subst ho
      obtain rfl := Option.some.inj hdt
      have i25 : (act.eval (.tmp (25 : Nat))) = .slice (some ⟨g, 0, none⟩) l l := hin ⟨0, .data⟩ (by simp) rfl 25 rfl
      exact plain_wp (by intro c h; cases h) (fun _ _ => trivial) (by simp only [execOp, i25, evalC, evalF, evalG]; simp [go_sem, c0, c1, c2, c3, x0, x1, x2, x3, hl1]) ⟨_, rfl, rfl, Bl.refl _⟩
    · simp only [List.getElem?_toArray, List.getElem?_cons_zero, List.getElem?_cons_succ, Option.some.injEq] at ho
      subst ho
      cases hdt
  case still =>
    intro j o t act u0 u ho hdt hpu
    cases hpu
  case store =>
    intro o act u vs ho hsz hu hfr hin
    simp only [List.getElem?_toArray, List.getElem?_cons_zero, List.getElem?_cons_succ, Option.some.injEq] at ho
    subst ho
    obtain ⟨i31, k31⟩ : act.eval (.tmp (31 : Nat)) = vs 6 ∧ ((vs 6) = enV y) := hin 6 31 rfl rfl
    obtain ⟨i32, k32⟩ : act.eval (.tmp (32 : Nat)) = vs 7 ∧ ((vs 7) = .pointer (some ⟨g, 0, none⟩)) := hin 7 32 rfl rfl
    rw [k31] at i31
    rw [k32] at i32
    have z0 : u.cell? ⟨g, 0, none⟩ = some (.int .i64 x.v) := (bl_cell hu _ _ hg3).trans (GC.out 0 _ rfl); have e0 : u.frozen? ⟨g, 0, none⟩ = false := (bl_froz hu _ _ hg3).trans (GF.out 0); have z1 : u.cell? ⟨g, 1, none⟩ = some (.int .i64 x.l) := (bl_cell hu _ _ hg3).trans (GC.out 1 _ rfl); have e1 : u.frozen? ⟨g, 1, none⟩ = false := (bl_froz hu _ _ hg3).trans (GF.out 1); have z2 : u.cell? ⟨g, 2, none⟩ = some (.int .i64 x.h) := (bl_cell hu _ _ hg3).trans (GC.out 2 _ rfl); have e2 : u.frozen? ⟨g, 2, none⟩ = false := (bl_froz hu _ _ hg3).trans (GF.out 2); have z3 : u.cell? ⟨g, 3, none⟩ = some (.bool x.bad) := (bl_cell hu _ _ hg3).trans (GC.out 3 _ rfl); have e3 : u.frozen? ⟨g, 3, none⟩ = false := (bl_froz hu _ _ hg3).trans (GF.out 3)
    exact skip_wp (by intro c h; cases h) (fun _ _ => trivial) (by simp only [execOp, i31, i32]; simp [go_sem, z0, e0, z1, e1, z2, e2, z3, e3]; rfl) ⟨rfl, rfl⟩
  case fin =>
    intro vs vb u0 u hu hin hps
    have a0 := hin 0 25 rfl
    have a1 := hin 1 26 rfl
    have a2 := hin 2 27 rfl
    have a3 := hin 3 28 rfl
    have a4 := hin 4 29 rfl
    have a5 := hin 5 30 rfl
    have a6 := hin 6 31 rfl
    have a7 := hin 7 32 rfl
    simp only [putL, Act.put, List.setIfInBounds_toArray, List.set_cons_zero, List.set_cons_succ, Nat.zero_add, Nat.reduceAdd, Nat.reduceBEq, Bool.or_false, Bool.or_true, Bool.false_or, Bool.true_or, Bool.false_eq_true, if_false, if_true, reduceIte, Nat.reduceEqDiff, beq_self_eq_true, Bool.or_self] at a0 a1 a2 a3 a4 a5 a6 a7 ⊢
    rw [if_pos (by decide)] at hps
    simp only [a0, a1, a2, a3, a4, a5, a6, a7]
    have hb0u : But (InT B n) w u0 := (But.of_bl (w03.out)).trans (But.of_bl hu)
    have hgu := Nat.lt_of_lt_of_le hg3 hu.size
    have hu' : Bl w u := by rw [hps]; exact bl_setCells (w03.out.trans hu) hgw (cellsN y) 0
    have TB5 := hideP (HH.out.later hu')
    have kp5 : Box u w1.heap.size p := by rw [hps]; exact (kp3.later hu).setc (by have := HG.out; omega) _ _
    have VR5 := hideP (show RwZ 4 cellsN u w.heap.size (.slice (some ⟨g, 0, none⟩) l l) (tailH m k (vH kdN m k (lowN (a k k)) a)) by
      rw [hps, VT.out]
      have q := VR.out.later hu
      rw [XT.out] at q
      exact (RwZ.put0 cellsN_len q).base (Nat.le_refl _))
    clear hps hb0u
    have DOT := hideP (fun w' (hh : Bl u w') => by have := vDotN (.slice (some ⟨g, 0, none⟩) l l) (.slice (some ⟨g, 0, none⟩) l l) _ _ w' (VR5.out.rw.later hh).q (VR5.out.rw.later hh).q (by rw [tail_len]; omega) (by rw [tail_len]; omega); rw [← HQ.out] at this; exact this)
    clear XC GC GF VR
    go_wp2_with fail
    refine (DOT.out _ (Bl.refl _)).mono ?_
    rintro e w6 ⟨rfl, h6⟩
    obtain ⟨W6, hW6⟩ : ∃ W6, W6 = w6.alloc (.cells #[.int .i64 q.v, .int .i64 q.l, .int .i64 q.h, .bool q.bad] 52) := ⟨_, rfl⟩
    have b6 : Bl w6 W6 := by rw [hW6]; exact (Bl.refl _).alloc _
    have k6 := Box.new w6 q 52
    rw [← hW6] at k6
    have h6u : Bl u W6 := h6.trans b6
    have HW6 := hideP hW6
    clear hW6 DOT
    have PI := hideP (show ¬ InT B n w1.heap.size from by
      rintro ⟨i, hi', e⟩
      have := HH.out.blt i hi'
      have := h1.size
      omega)
    have QI := hideP (show ¬ InT B n w6.heap.size from by
      rintro ⟨i, hi', e⟩
      have := HH.out.blt i hi'
      have := (hu'.trans h6).size
      omega)
    have kp6 := kp5.later h6u
    have hg6 : g < W6.heap.size := Nat.lt_of_lt_of_le VR5.out.glt h6u.size
    have TB6 := hideP (TB5.out.later h6u)
    have VR6 := hideP (VR5.out.later h6u)
    have wW6 : Bl w W6 := hu'.trans h6u
    clear TB5 VR5 kp5
    go_wp2_with fail
    rw [← HW6.out]
    go_loopw [41] (fun v wr => ∃ j : Nat, v = .int .i64 j ∧ j ≤ n - (k + 1) ∧ Tbl 4 cellsN wr H B cp n m (partH k j (foldStep kdN m k (lowN (a k k)) a) a) ∧ But (InT B n) W6 wr) (fun v _ => n - (intOf v).toNat)
    case atStart => exact ⟨0, rfl, Nat.zero_le _, by rw [partH_zero]; exact TB6.out, But.refl _ _⟩
    case round =>
      obtain ⟨j, rfl, hj, tb, bt⟩ := hrel
      have TB := hideP tb
      clear tb
      by_cases hlt : j < n - (k + 1)
      · have hk1 : k + 1 < n := by omega
        have hin : k + 1 + j < n := by omega
        have pe := hpe hk1
        subst pe
        obtain ⟨bi, hbi⟩ : ∃ bi, bi = B (k + 1 + j) := ⟨_, rfl⟩
        obtain ⟨ci, hci⟩ : ∃ ci, ci = cp (k + 1 + j) := ⟨_, rfl⟩
        have hdr := TB.out.hdr (k + 1 + j) hin
        have hcapi := TB.out.cap (k + 1 + j) hin
        have hpart := TB.out.part hin hkm
        have eqr : partH k j (foldStep kdN m k (lowN (a k k)) a) a (k + 1 + j) = a (k + 1 + j) := by
          funext c
          unfold partH
          rw [if_neg (by omega)]
        rw [eqr] at hpart
        rw [← hbi, ← hci] at hdr hpart
        rw [← hci] at hcapi
        rw [← HLL.out] at hpart
        have sl := fun u => Tryz.restN bi m ci k u hkm hcapi (by omega)
        rw [← HLL.out] at sl
        have LESS := hideP (hLessN (.slice (some ⟨bi, k * 4, none⟩) l (ci - k)) (.slice (some ⟨g, 0, none⟩) l l) (tailH m k (a (k + 1 + j))) (tailH m k (vH kdN m k (lowN (a k k)) a)) q wr hpart (VR6.out.but bt (fun g' hg' => by cases hg'; exact GI.out)).rw (by rw [tail_len]; omega) (by rw [tail_len]; omega))
        rw [show lessH kdN (tailH m k (a (k + 1 + j))) (tailH m k (vH kdN m k (lowN (a k k)) a)) q = tailH m k (foldStep kdN m k (lowN (a k k)) a (k + 1 + j)) by rw [HQ.out]; exact less_get kdN m k _ a _ (by omega)] at LESS
        have HBI := hideP hbi
        have HCI := hideP hci
        obtain ⟨d0, d1, d2, d3, g0, g1, g2, g3, ltq⟩ := k6.but bt QI.out
        clear hbi hci eqr hpart
        go_wp2_with fail
        refine LESS.out.mono ?_
        rintro e w7 ⟨u7, rfl, hr7, h7⟩
        obtain ⟨p7, c7, rfl, hcc7, _⟩ := hr7.cut
        have hl7 : (tailH m k (foldStep kdN m k (lowN (a k k)) a (k + 1 + j))).length = l := by rw [tail_len, HLL.out]
        rw [hl7] at hr7 hcc7 ⊢
        obtain ⟨b7, o7, rfl, hx7⟩ : ∃ b7 o7, p7 = some ⟨b7, o7, none⟩ ∧ ∀ t u, ((tailH m k (foldStep kdN m k (lowN (a k k)) a (k + 1 + j))).flatMap cellsN)[t]? = some u → w7.cell? ((⟨b7, o7, none⟩ : Addr).add t) = some u := by
          rcases hr7 with ⟨e1, e2⟩ | ⟨b7, o7, cap7, e1, _, _, hx⟩
          · rw [e2] at hl7; simp at hl7; omega
          · cases e1
            exact ⟨b7, o7, rfl, flat_cells cellsN_len hx⟩
        obtain ⟨cs7, hcs7⟩ : ∃ cs7, cs7 = (tailH m k (foldStep kdN m k (lowN (a k k)) a (k + 1 + j))).flatMap cellsN := ⟨_, rfl⟩
        have tb7 := TB.out.later h7
        have put7 := tb7.put cellsN_len (b := partH k (j + 1) (foldStep kdN m k (lowN (a k k)) a) a) (i := k + 1 + j) (k := k) (xs := tailH m k (foldStep kdN m k (lowN (a k k)) a (k + 1 + j))) hin (by rw [hl7, HLL.out]; omega)
          (fun c hc => by rw [hl7, HLL.out] at hc; rw [tail_get _ hc]; unfold partH; rw [if_pos (by omega)])
          (fun i' c hi' hc hne => by
            rw [hl7, HLL.out] at hne
            unfold partH
            by_cases h1 : k < i' ∧ i' ≤ k + j
            · rw [if_pos h1, if_pos (by omega)]
            · rw [if_neg h1]
              by_cases h2 : k < i' ∧ i' ≤ k + (j + 1)
              · rw [if_pos h2]
                have : i' = k + 1 + j := by omega
                subst this
                unfold foldStep
                rw [if_neg (by omega), if_neg (by omega)]
              · rw [if_neg h2])
        have sm7 := tb7.somes cellsN_len (i := k + 1 + j) (k := k) (xs := tailH m k (foldStep kdN m k (lowN (a k k)) a (k + 1 + j))) hin (by rw [hl7, HLL.out]; omega)
        have fz7 := fun o => tb7.froz (k + 1 + j) hin o
        have len7 : cs7.length = l * 4 := by rw [hcs7, flat_len cellsN_len, hl7]
        have one7 : ∀ v ∈ cs7, v.oneCell' = true := by rw [hcs7]; exact flat_one oneN_cells _
        rw [← hcs7] at put7 sm7 hx7
        rw [← HBI.out] at put7 sm7 fz7
        have PUT7 := hideP put7
        have SM7 := hideP sm7
        have HX7 := hideP hx7
        have bt7 : But (InT B n) W6 w7 := bt.trans (But.of_bl h7)
        clear put7 sm7 hx7 hcs7 hr7 LESS tb7 d0 d1 d2 d3 g0 g1 g2 g3 hdr sl
        go_wp2_with (show wpList _ _ _ (Oper.mk _ (Op.call { callee := .builtin .copy, args := _, argTypes := _ }) _ _ _ _ :: _) _ _; refine wpList_copy_s rfl _ _ _ _ rfl 52 Tryz.underlying46 4 SZ.out bi (k * 4) l (ci - k) ⟨b7, o7, none⟩ l c7 rfl rfl l cs7 (Nat.min_self _) len7 HX7.out SM7.out (fun j _ => fz7 _) one7 ?_; intro w8 hw8)
        have TB8 := hideP (show Tbl 4 cellsN w8 H B cp n m (partH k (j + 1) (foldStep kdN m k (lowN (a k k)) a) a) by rw [hw8.out]; exact PUT7.out.1)
        have bt8 : But (InT B n) W6 w8 := bt7.trans (by rw [hw8.out]; exact PUT7.out.2)
        clear hw8 PUT7 SM7 HX7 fz7
        go_wp2
        go_roundw
        case rel => exact ⟨j + 1, by simp, hlt, TB8.out, bt8⟩
        case measure => simp [intOf]; omega
      · obtain rfl : j = n - (k + 1) := by omega
        have PE := hideP (fun i c => show partH k (n - (k + 1)) (foldStep kdN m k (lowN (a k k)) a) a i c = if k < i ∧ i ≤ k + (n - (k + 1)) then foldStep kdN m k (lowN (a k k)) a i c else a i c from rfl)
        have kpr := kp6.but bt PI.out
        obtain ⟨c0, c1, c2, c3, f0, f1, f2, f3, ltp⟩ := id kpr
        go_wp2_with (at_make; refine wpList_make_full _ rfl _ _ 22 rfl wr.heap.size 3 j0 (.int .i64 0) 1 Tryz.underlying22 hji jz0 jz1 .i64 .i64 _ _ l rfl rfl (by simp) (by simp) (by rw [jz2]; omega) (by unfold maxLen; omega) (Nat.le_refl _) ?_; intro w9 hown9 hgrow9)
        have h9 : Bl wr w9 := ⟨hgrow9.os, hgrow9.tape, hgrow9.output, hgrow9.size, fun k hk => hgrow9.block k hk nofun⟩
        have R9 := hideP (show Rw 1 (fun n : Int => [.int .i64 n]) w9 (.slice (some ⟨wr.heap.size, 0, none⟩) l l) (List.replicate l (0 : Int)) from Rw.of_own (c := cellsI) (fun _ => rfl) (xs := List.replicate l (0 : Int)) (by have := hown9; rw [zeros_made] at this; simpa using this))
        clear hown9 hgrow9 c0 c1 c2 c3 f0 f1 f2 f3
        refine (vWholeN _ (List.replicate l (0 : Int)) _ R9.out.q (by simp; omega)).mono ?_
        rintro e w10 ⟨u10, rfl, hr10, h10⟩
        obtain ⟨p10, c10, rfl, hcc10, _⟩ := hr10.cut
        have hl10 : ((List.replicate l (0 : Int)).map wholeN).length = l := by simp
        rw [hl10] at hr10 hcc10 ⊢
        obtain ⟨b10, o10, rfl, hx10⟩ : ∃ b7 o7, p10 = some ⟨b7, o7, none⟩ ∧ ∀ j u, (((List.replicate l (0 : Int)).map wholeN).flatMap cellsN)[j]? = some u → w10.cell? ((⟨b7, o7, none⟩ : Addr).add j) = some u := by
          rcases hr10 with ⟨e1, e2⟩ | ⟨b7, o7, cap7, e1, _, _, hx⟩
          · rw [e2] at hl10; simp at hl10; omega
          · simp only [Value.slice.injEq] at e1
            obtain ⟨rfl, _, _⟩ := e1
            exact ⟨b7, o7, rfl, flat_cells cellsN_len hx⟩
        obtain ⟨cs10, hcs10⟩ : ∃ cs10, cs10 = ((List.replicate l (0 : Int)).map wholeN).flatMap cellsN := ⟨_, rfl⟩
        have tb10 := TB.out.later (h9.trans h10)
        have put10 := tb10.put cellsN_len (b := fun i c => if i = k then (if c < k then a i c else kdN.z) else foldStep kdN m k (lowN (a k k)) a i c) (i := k) (k := k) (xs := (List.replicate l (0 : Int)).map wholeN) hk (by rw [hl10, HLL.out]; omega)
          (fun c hc => by rw [hl10] at hc; rw [if_pos rfl, if_neg (by omega), List.getElem?_map, List.getElem?_replicate, if_pos hc]; rfl)
          (fun i' c hi' hc hne => by
            rw [hl10, HLL.out] at hne
            show (if i' = k then (if c < k then a i' c else kdN.z) else foldStep kdN m k (lowN (a k k)) a i' c) = partH k (n - (k + 1)) (foldStep kdN m k (lowN (a k k)) a) a i' c
            unfold partH
            by_cases h1 : i' = k
            · subst h1
              rw [if_pos rfl, if_pos (by omega), if_neg (by omega)]
            · rw [if_neg h1]
              by_cases h2 : k < i'
              · rw [if_pos (by omega)]
              · rw [if_neg (by omega)]
                unfold foldStep
                rw [if_neg h1, if_neg (by omega)])
        have sm10 := tb10.somes cellsN_len (i := k) (k := k) (xs := (List.replicate l (0 : Int)).map wholeN) hk (by rw [hl10, HLL.out]; omega)
        have fz10 := fun o => tb10.froz k hk o
        have len10 : cs10.length = l * 4 := by rw [hcs10, flat_len cellsN_len, hl10]
        have one10 : ∀ v ∈ cs10, v.oneCell' = true := by rw [hcs10]; exact flat_one oneN_cells _
        rw [← hcs10] at put10 sm10 hx10
        rw [← HBE.out] at put10 sm10 fz10
        have PUT10 := hideP put10
        have SM10 := hideP sm10
        have HX10 := hideP hx10
        have bt10 : But (InT B n) W6 w10 := bt.trans (But.of_bl (h9.trans h10))
        have kp10 := kpr.later (h9.trans h10)
        clear put10 sm10 hx10 hcs10 hr10 tb10 R9 kpr
        go_wp2_with (show wpList _ _ _ (Oper.mk _ (Op.call { callee := .builtin .copy, args := _, argTypes := _ }) _ _ _ _ :: _) _ _; refine wpList_copy_s rfl _ _ _ _ rfl 52 Tryz.underlying46 4 SZ.out b (k * 4) l cx ⟨b10, o10, none⟩ l c10 rfl rfl l cs10 (Nat.min_self _) len10 HX10.out SM10.out (fun j _ => fz10 _) one10 ?_; intro w11 hw11; have TB11 := hideP (show Tbl 4 cellsN w11 H B cp n m (fun i c => if i = k then (if c < k then a i c else kdN.z) else foldStep kdN m k (lowN (a k k)) a i c) by rw [hw11.out]; exact PUT10.out.1); have bt11 : But (InT B n) W6 w11 := bt10.trans (by rw [hw11.out]; exact PUT10.out.2); have kp11 : Box w11 w1.heap.size p := by { rw [hw11.out]; exact kp10.setc (by rw [HBE.out]; exact fun e => PI.out ⟨k, hk, e⟩) _ _ }; obtain ⟨c0, c1, c2, c3, f0, f1, f2, f3, ltp⟩ := id kp11; obtain ⟨z, hz⟩ : ∃ z, z = kdN.z := ⟨_, rfl⟩; have ZC := hideP (show ∀ i u, (cellsN z)[i]? = some u → w11.cell? ⟨b, k * 4 + i, none⟩ = some u by { intro i u hu; have := TB11.out.cells k k hk (by omega) i u (by rw [if_pos rfl, if_neg (by omega), ← hz]; exact hu); rw [← HBE.out] at this; exact this }); have z0 : w11.cell? ⟨b, k * 4, none⟩ = some (.int .i64 z.v) := ZC.out 0 _ rfl; have e0 : w11.frozen? ⟨b, k * 4, none⟩ = false := by { have := TB11.out.froz k hk (k * 4); rw [← HBE.out] at this; exact this }; have z1 : w11.cell? ⟨b, k * 4 + 1, none⟩ = some (.int .i64 z.l) := ZC.out 1 _ rfl; have e1 : w11.frozen? ⟨b, k * 4 + 1, none⟩ = false := by { have := TB11.out.froz k hk (k * 4 + 1); rw [← HBE.out] at this; exact this }; have z2 : w11.cell? ⟨b, k * 4 + 2, none⟩ = some (.int .i64 z.h) := ZC.out 2 _ rfl; have e2 : w11.frozen? ⟨b, k * 4 + 2, none⟩ = false := by { have := TB11.out.froz k hk (k * 4 + 2); rw [← HBE.out] at this; exact this }; have z3 : w11.cell? ⟨b, k * 4 + 3, none⟩ = some (.bool z.bad) := ZC.out 3 _ rfl; have e3 : w11.frozen? ⟨b, k * 4 + 3, none⟩ = false := by { have := TB11.out.froz k hk (k * 4 + 3); rw [← HBE.out] at this; exact this }; clear hz hw11 PUT10 SM10 HX10 fz10)
        have PUT12 := hideP (TB11.out.put cellsN_len (b := foldStep kdN m k (lowN (a k k)) a) (i := k) (k := k) (xs := [p]) hk (by simp; omega)
          (fun c hc => by
            have : c = 0 := by simpa using hc
            subst this
            rw [Nat.add_zero]
            unfold foldStep
            rw [if_pos rfl, if_pos rfl, HP.out]; rfl)
          (fun i' c hi' hc hne => by
            simp only [List.length_singleton] at hne
            show foldStep kdN m k (lowN (a k k)) a i' c = if i' = k then (if c < k then a i' c else kdN.z) else foldStep kdN m k (lowN (a k k)) a i' c
            by_cases h1 : i' = k
            · subst h1
              rw [if_pos rfl]
              unfold foldStep
              rw [if_pos rfl]
              by_cases h2 : c < i'
              · rw [if_pos h2, if_neg (by omega), if_neg (by omega)]
              · rw [if_neg h2, if_neg (by omega), if_pos (by omega)]
            · rw [if_neg h1]))
        rw [← HBE.out] at PUT12
        go_end0
        exact ⟨⟨_, rfl⟩, PUT12.out.1, (But.of_bl wW6).trans (bt11.trans PUT12.out.2)⟩
end Go.Proofs.YtljmggemdkfbiaaGreat
