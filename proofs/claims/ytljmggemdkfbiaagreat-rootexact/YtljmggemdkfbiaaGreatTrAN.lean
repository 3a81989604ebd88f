/- Contracts of tri's square, triangle, and of Whole's own memory, of enclosed numbers (layer 7). Written by genTr.py. -/
import Derived.Test.YtljmggemdkfbiaaGreatTr0
import Derived.Test.YtljmggemdkfbiaaGreatMaDN
namespace Go.Proofs.YtljmggemdkfbiaaGreat
open Go.RowKit
set_option linter.unusedSimpArgs false
set_option linter.unusedVariables false

theorem tSquareN (r c : Int) (p : Option Addr) (n cap : Nat) (w : World) :
    Calls Tryz.prog 60 #[mV r c p n cap] w fun e w' => e = .returned (.bool (sqB r c n)) ∧ Bl w w' := by
  obtain ⟨W, hW⟩ : ∃ W, W = w.alloc (.cells #[.int .i64 r, .int .i64 c, .slice p n cap] 48) := ⟨_, rfl⟩
  have b0 : Bl w W := by rw [hW]; exact (Bl.refl _).alloc _
  have m0 : MBox W w.heap.size r c p n cap := by rw [hW]; exact MBox.new w _ _ _ _ _ _
  have HW := hideP hW
  clear hW
  have hd : sqB r c n = (fitB r c n && (r == c)) := by unfold sqB; congr 1
  rw [hd]
  clear hd
  cases hf : fitB r c n
  · go_enter Tryz.func60, Tryz.ntmps60
    go_wp2_with fail
    rw [← HW.out]
    refine (mRightN _ _ _ _ _ _).mono ?_
    rintro e w1 ⟨rfl, h1⟩
    rw [hf]
    obtain ⟨c0, c1, c2, f0, f1, f2, lt⟩ := m0.later h1
    go_wp2
    go_ret
    exact ⟨rfl, b0.trans h1⟩
  · go_enter Tryz.func60, Tryz.ntmps60
    go_wp2_with fail
    rw [← HW.out]
    refine (mRightN _ _ _ _ _ _).mono ?_
    rintro e w1 ⟨rfl, h1⟩
    rw [hf]
    obtain ⟨c0, c1, c2, f0, f1, f2, lt⟩ := m0.later h1
    go_wp2
    go_ret
    exact ⟨by rw [Bool.true_and]; rfl, b0.trans h1⟩
set_option maxHeartbeats 1000000 in
/-- vec.Whole's memory is its own. -/
theorem vWholeON (p : Option Addr) (n cap : Nat) (ns : List Int) (w : World) (h : Rq 1 (fun n => [.int .i64 n]) w (.slice p n cap) ns) (hn : ns.length = n) (h0 : 0 < n) (hl : n ≤ 1000000) :
    Calls Tryz.prog 35 #[.slice p n cap] w fun e w' => ∃ u, e = .returned u ∧ w'.ownsRow w.heap.size 52 4 u n ((ns.map wholeN).flatMap cellsN) ∧ Bl w w' := by
  obtain ⟨i0, hi, hz0, hz1, hz2⟩ := info_parts Tryz.info_N
  subst hn
  rcases h with ⟨p', cap', he, rfl, hpn⟩ | ⟨b, o, cap', he, hc, hb, hx⟩
  · simp at h0
  · cases he
    have HX := hideP hx
    clear hx
    go_enter Tryz.func35, Tryz.ntmps35
    go_wp2_with (at_make; refine wpList_make_own _ rfl _ _ 46 rfl w.heap.size 52 i0 (.agg #[.int .i64 0, .int .i64 0, .int .i64 0, .bool false]) 4 Tryz.underlying46 hi hz0 hz1 .i64 .i64 _ ns.length rfl rfl (by simp) (by rw [hz2]; omega) (by unfold maxLen; omega) (Nat.le_refl _) ?_; intro w0 hown0 hgrow0)
    have hB0 : Bl w w0 := (Bl.refl w).grown hgrow0 (by omega) (fun k e => by cases e)
    go_loopw [3, 11] (fun v i wr => ∃ k : Nat, i = .int .i64 k ∧ k ≤ ns.length ∧ wr.ownsRow w.heap.size 52 4 v ((ns.take k).map wholeN).length (((ns.take k).map wholeN).flatMap cellsN) ∧ Bl w wr) (fun _ i _ => ns.length - (intOf i).toNat)
    case atStart => exact ⟨0, rfl, Nat.zero_le _, hown0, hB0⟩
    case round =>
      obtain ⟨k, rfl, hk, hown, hB⟩ := hrel
      by_cases hlt : k < ns.length
      · obtain ⟨x, hx⟩ : ∃ x, ns[k]? = some x := ⟨_, List.getElem?_eq_getElem hlt⟩
        have y0 : wr.cell? ⟨b, o + k, none⟩ = some (.int .i64 x) := by
          have := (bl_cell hB _ _ hb).trans (HX.out k x hx 0 _ rfl)
          simpa using this
        have hT : (ns.take (k + 1)).map wholeN = (ns.take k).map wholeN ++ [wholeN x] := by rw [List.take_add_one, hx]; simp
        have hkl : ((ns.take k).map wholeN).length = k := by simp; omega
        have HK := hideP hkl
        clear hkl
        have HT := hideP hT
        clear hT
        generalize hys : (ns.take k).map wholeN = ys at *
        clear hys
        go_wp2_with fail
        refine (vwholeN x _).mono ?_
        rintro e w2 ⟨rfl, h2⟩
        have hr : wholeN x = (ptE (foN x) (foB x)) := rfl
        generalize (ptE (foN x) (foB x)) = r at *
        rw [hr] at HT
        clear hr y0
        replace hown := own_blN hown h2
        replace hB := hB.trans h2
        have hkk := HK.out
        go_wp2_with (at_builtin; refine wpList_append_own _ rfl _ _ 46 rfl w.heap.size 52 i0 (.agg #[.int .i64 0, .int .i64 0, .int .i64 0, .bool false]) 4 32 Tryz.underlying46 hi hz0 hz1 hz2 rfl (by decide) _ _ _ rfl (hown.alloc _) ⟨_, 0, none⟩ 1 1 (cellsN r) rfl rfl (newN_cells _ _ _) (oneN_cells _) (by unfold maxLen; omega) (by omega) (by have := hB.size; simp; omega) ?_; intro v' w1 hown' hgrow _)
        have R := ownN_step hB hown hown' hgrow
        clear hown hown' hgrow
        go_wp2
        go_roundw
        case rel => exact ⟨k + 1, by simp, hlt, by rw [HT.out]; exact R.2, R.1⟩
        case measure => simp [intOf]; omega
      · have hk' : k = ns.length := by omega
        subst hk'
        rw [List.take_length, List.length_map] at hown
        have R := hideP hown
        clear hown
        go_wp2
        go_ret
        exact ⟨_, rfl, R.out, hB⟩
/-- mat.Whole's memory is its own. -/
theorem mWholeON (r c : Int) (p : Option Addr) (n cap : Nat) (ns : List Int) (w : World) (hr : Rq 1 (fun n => [.int .i64 n]) w (.slice p n cap) ns) (h : fitB r c n = true) (hn : ns.length = n) :
    Calls Tryz.prog 33 #[.int .i64 r, .int .i64 c, .slice p n cap] w fun e w' => ∃ g cap', e = .returned (.tuple #[mV r c (some ⟨g, 0, none⟩) n cap', .bool true]) ∧ w'.ownsRow (w.heap.size + 1) 52 4 (.slice (some ⟨g, 0, none⟩) n cap') n ((ns.map wholeN).flatMap cellsN) ∧ Bl w w' := by
  have hl : n ≤ 1000000 ∧ 0 < n := by obtain ⟨R, C, _, _, hd, rfl⟩ := fitB_nat h; have := hd.lt; exact ⟨by omega, Nat.mul_pos hd.r1 hd.c1⟩
  obtain ⟨W, hW⟩ : ∃ W, W = w.alloc (.cells #[.int .i64 0, .int .i64 0, .slice none 0 0] 48) := ⟨_, rfl⟩
  have b0 : Bl w W := by rw [hW]; exact (Bl.refl _).alloc _
  have x0 : MBox W w.heap.size 0 0 none 0 0 := by rw [hW]; exact MBox.new w 0 0 none 0 0 _
  have hsz : W.heap.size = w.heap.size + 1 := by rw [hW]; simp
  have CL := hideP (vWholeON p n cap ns W (hr.later b0) hn hl.2 hl.1)
  rw [hsz] at CL
  have HW := hideP hW
  clear hW hr
  go_enter Tryz.func33, Tryz.ntmps33
  go_wp2_with fail
  rw [← HW.out]
  refine (fits_any _ _ _ _).mono ?_
  rintro e w1 ⟨rfl, rfl⟩
  rw [h]
  go_wp2_with fail
  refine CL.out.mono ?_
  rintro e w2 ⟨u, rfl, hR, h2⟩
  obtain ⟨g, cap', hu⟩ : ∃ g cap', u = .slice (some ⟨g, 0, none⟩) n cap' := by
    rcases hR.2 with ⟨rfl, e⟩ | ⟨g, cap', cur, rfl, _⟩
    · have := hl.2; omega
    · exact ⟨g, cap', rfl⟩
  subst hu
  have HR := hideP hR
  obtain ⟨c0, c1, c2, f0, f1, f2, lt⟩ := x0.later h2
  clear hR CL
  go_wp2
  simp [bodyPost, results, Tryz.results33, go_sem, c0, c1, c2]
  refine ⟨g, cap', ⟨rfl, rfl⟩, ?_, Bl.put3 (b0.trans h2) (Nat.le_refl _) _ _ _⟩
  exact ownsRow_setCell_below (ownsRow_setCell_below (ownsRow_setCell_below HR.out (a := ⟨w.heap.size, 0, none⟩) (Nat.lt_succ_self _) _) (a := ⟨w.heap.size, 1, none⟩) (Nat.lt_succ_self _) _) (a := ⟨w.heap.size, 2, none⟩) (Nat.lt_succ_self _) _
/-- One number of a row that is owned, set anew. -/
theorem own_putN {w : World} {base g m cap : Nat} {xs : List En} (h : w.ownsRow base 52 4 (.slice (some ⟨g, 0, none⟩) m cap) m (xs.flatMap cellsN)) {q : Nat} (hq : q < xs.length) (x : En) :
    ((((w.setCell ⟨g, q * 4, none⟩ (.int .i64 x.v)).setCell ⟨g, q * 4 + 1, none⟩ (.int .i64 x.l)).setCell ⟨g, q * 4 + 2, none⟩ (.int .i64 x.h)).setCell ⟨g, q * 4 + 3, none⟩ (.bool x.bad)).ownsRow base 52 4 (.slice (some ⟨g, 0, none⟩) m cap) m ((xs.set q x).flatMap cellsN) := by
  have e := flat_set cellsN_len xs q x hq
  rw [← e]
  have o0 := h
  obtain ⟨o1, g1⟩ := o0.stored (q * 4) (.int .i64 x.v)
  obtain ⟨o2, g2⟩ := o1.stored (q * 4 + 1) (.int .i64 x.l)
  obtain ⟨o3, g3⟩ := o2.stored (q * 4 + 2) (.int .i64 x.h)
  obtain ⟨o4, g4⟩ := o3.stored (q * 4 + 3) (.bool x.bad)
  exact o4

set_option maxRecDepth 100000 in
set_option maxHeartbeats 2000000 in
theorem tTriangleN (G pb : Nat) (eg : ∀ (args : Array Value) (w : World), (callFunc G args).run Tryz.prog w = .ok (.enter G args) w) (val : (Nat → Nat → En) → Nat → Nat → En) (n N : Nat) (h1 : 1 ≤ n) (h2 : n ≤ 16) (hN : N = n * n) (w : World)
    (hG : ∀ (f : Nat → Nat → En) (p : Option Addr) (cap i k : Nat) (u : World), k ≤ i → i < n → Bl w u → Mx 4 cellsN u n n p N cap f → Calls Tryz.prog G #[mV n n p N cap, .int .i64 i, .int .i64 k, .pointer (some ⟨pb, 0, none⟩)] u fun e w' => e = .returned (enV (val f i k)) ∧ Bl u w') :
    Calls Tryz.prog 116 #[.int .i64 n, .func (.func G) #[] #[.pointer (some ⟨pb, 0, none⟩)]] w fun e w' => ∃ p' cap', e = .returned (mV n n p' N cap') ∧ (Mx 4 cellsN w' n n p' N cap' (triT val (wholeN 0) n n) ∧ Fresh w.heap.size (.slice p' N cap')) ∧ Bl w w' := by
  obtain ⟨i0, hi, hz0, hz1, hz2⟩ := info_parts Tryz.info_I
  have fm : Tryz.prog.follows .mixedOrders = true := by kernel_rfl
  have hd : Dim n n := ⟨h1, h2, h1, h2⟩
  have hnn : (n : Int) * (n : Int) = N := by rw [hN]; simp
  have hN256 : N ≤ 256 := by rw [hN]; exact hd.lt
  have hfit := hideP (fitB_dim hd hN)
  have HN := hideP hN
  have HG := hideP hG
  clear hN hG
  have z0 := MBox.new w 0 0 none 0 0 48
  go_enter Tryz.func116, Tryz.ntmps116
  go_wp2_with (at_make; refine wpList_make_full _ rfl _ _ 22 rfl (w.heap.size + 1) 3 i0 (.int .i64 0) 1 Tryz.underlying22 hi hz0 hz1 .i64 .i64 _ _ N rfl rfl (by simp) (by simp) (by rw [hz2]; omega) (by unfold maxLen; omega) (by simp) ?_; intro w0 hown0 hgrow0)
  rw [zeros_made] at hown0
  have hB0 : Bl w w0 := ((Bl.refl w).alloc _).grown hgrow0 (by simp) (fun k e => by cases e)
  have hz : MBox w0 w.heap.size 0 0 none 0 0 := mbox_block z0 (hgrow0.block _ z0.lt nofun) hgrow0.size
  have hs0 : w.heap.size + 1 ≤ w0.heap.size := by have := hz.lt; omega
  clear hgrow0 z0
  try simp only [World.size_alloc] at hown0 ⊢
  have hr : Rq 1 (fun n => [.int .i64 n]) w0 (.slice (some ⟨w.heap.size + 1, 0, none⟩) N N) (List.replicate N (0 : Int)) := (Rw.of_own cellsI_len (xs := List.replicate N (0 : Int)) (by rw [List.length_replicate]; exact hown0)).q
  have WH := hideP (mWholeON n n _ N N _ w0 hr hfit.out (by simp))
  clear hr hown0
  refine WH.out.mono ?_
  rintro e w2 ⟨g, cap, rfl, hown, h2'⟩
  rw [HN.out, zeros_map, ← HN.out] at hown
  have hg := hown.lt g rfl
  have hB2 : Bl w w2 := hB0.trans h2'
  have hz2 := hz.later h2'
  clear WH hz hB0
  obtain ⟨W, hW⟩ : ∃ W, W = w2.alloc (.cells #[.int .i64 n, .int .i64 n, .slice (some ⟨g, 0, none⟩) N cap] 48) := ⟨_, rfl⟩
  have bt : MBox W w2.heap.size n n (some ⟨g, 0, none⟩) N cap := by rw [hW]; exact MBox.new w2 _ _ _ _ _ _
  have bW : Bl w W := by rw [hW]; exact hB2.alloc _
  have hzW : MBox W w.heap.size 0 0 none 0 0 := by rw [hW]; exact hz2.later ((Bl.refl _).alloc _)
  have hoW : W.ownsRow (w.heap.size + 1) 52 4 (.slice (some ⟨g, 0, none⟩) N cap) N ((mk n n (triT val (wholeN 0) n 0)).flatMap cellsN) := by
    rw [hW]
    exact (own_base hown (by omega)).alloc _
  have hgt : w.heap.size + 1 ≤ g ∧ g < w2.heap.size := ⟨by have := hg.1; omega, hg.2⟩
  have HW := hideP hW
  clear hW hown hg hz2 h2'
  go_wp2_with fail
  rw [← HW.out]
  go_loopw [20] (fun i wr => ∃ k : Nat, i = .int .i64 k ∧ k ≤ n ∧ wr.ownsRow (w.heap.size + 1) 52 4 (.slice (some ⟨g, 0, none⟩) N cap) N ((mk n n (triT val (wholeN 0) n k)).flatMap cellsN) ∧ MBox wr w2.heap.size n n (some ⟨g, 0, none⟩) N cap ∧ MBox wr w.heap.size 0 0 none 0 0 ∧ Bl w wr) (fun i _ => n - (intOf i).toNat)
  case atStart => exact ⟨0, rfl, Nat.zero_le _, hoW, bt, hzW, bW⟩
  case round =>
    clear hoW bt hzW bW
    obtain ⟨k, rfl, hk, hown, ht, hz, hB⟩ := hrel
    by_cases hlt : k < n
    · go_wp2_with fail
      go_loopw [8] (fun i wr => ∃ m : Nat, i = .int .i64 (((k + m : Nat)) : Int) ∧ k + m ≤ n ∧ wr.ownsRow (w.heap.size + 1) 52 4 (.slice (some ⟨g, 0, none⟩) N cap) N ((mk n n (colT val k (triT val (wholeN 0) n k) m)).flatMap cellsN) ∧ MBox wr w2.heap.size n n (some ⟨g, 0, none⟩) N cap ∧ MBox wr w.heap.size 0 0 none 0 0 ∧ Bl w wr) (fun i _ => n - (intOf i).toNat)
      case atStart => exact ⟨0, rfl, by omega, hown, ht, hz, hB⟩
      case round =>
        clear hown ht hz hB
        obtain ⟨m, rfl, hm, hown, ht, hz, hB⟩ := hrel
        obtain ⟨i, hi'⟩ : ∃ i, i = k + m := ⟨_, rfl⟩
        rw [← hi'] at hm ⊢
        by_cases hlt2 : i < n
        · have HT := hideP (show colT val k (triT val (wholeN 0) n k) (m + 1) = putM (colT val k (triT val (wholeN 0) n k) m) i k (val (colT val k (triT val (wholeN 0) n k) m) i k) by rw [hi']; rfl)
          have hki : k ≤ i := by omega
          have HI := hideP hi'
          clear hi'
          generalize colT val k (triT val (wholeN 0) n k) m = f at *
          obtain ⟨a, q, e1, e2, hq1, hq3, hq5, hq6⟩ := place hd hlt2 hlt
          rw [← HN.out] at hq5
          have HP := hideP e2
          clear e1 e2
          have MX : ∀ u, Bl wr u → Mx 4 cellsN u n n (some ⟨g, 0, none⟩) N cap f := fun u hu => ⟨hd, HN.out, (Rw.of_own cellsN_len (xs := mk n n f) (by rw [mk_len, ← HN.out]; exact own_blN hown hu)).q⟩
          have CL := hideP (fun u (hu : Bl wr u) => HG.out f (some ⟨g, 0, none⟩) cap i k u hki hlt2 (hB.trans hu) (MX u hu))
          have OW := hideP hown
          have CX : ∀ j u, (cellsN (f i k))[j]? = some u → wr.cell? ⟨g, q * 4 + j, none⟩ = some u := fun j u hu => by
            have := (MX wr (Bl.refl _)).cells
            obtain ⟨b, o, e, _, _, hc⟩ := this
            cases e
            have := hc i k hlt2 hlt j u hu
            rw [← HP.out] at this
            simpa using this
          have FZ : ∀ j, wr.frozen? ⟨g, j, none⟩ = false := fun j => hown.frozenAt j
          have hgl : g < wr.heap.size := (hown.lt g rfl).2
          have WA : IntKind.i64.wrap (a : Int) = a := wrapS7 (by omega) (by omega)
          have WQ : IntKind.i64.wrap (q : Int) = q := wrapS7 (by omega) (by omega)
          clear hown MX
          generalize f i k = y at *
          generalize val f i k = x at *
          go_wp2_with fail
          refine (wpIn_wide (n := 8)).1 (region_q fm [some 29, some 30, some 31, some 32, some 33, some 34, some 35, some 36, some 37, some 38, some 39, some 40, some 41, none] (fun _ => false) 13 (by kernel_rfl) (by rfl)
            (fun j v u => match j with | 0 => v = .pointer (some ⟨w2.heap.size, 2, none⟩) | 1 => v = .slice (some ⟨g, 0, none⟩) N cap | 2 => v = .int .i64 i | 3 => v = .int .i64 n | 4 => v = .int .i64 a | 5 => v = .int .i64 k | 6 => v = .int .i64 q | 7 => v = .func (.func G) #[] #[.pointer (some ⟨pb, 0, none⟩)] | 8 => v = mV n n (some ⟨g, 0, none⟩) N cap | 9 => v = .int .i64 i | 10 => v = .int .i64 k | 11 => v = enV x | 12 => v = .pointer (some ⟨g, q * 4, none⟩) | _ => False)
            (fun j v u u' _ h => h) (fun vs u0 u => u = (((u0.setCell ⟨g, q * 4, none⟩ (.int .i64 x.v)).setCell ⟨g, q * 4 + 1, none⟩ (.int .i64 x.l)).setCell ⟨g, q * 4 + 2, none⟩ (.int .i64 x.h)).setCell ⟨g, q * 4 + 3, none⟩ (.bool x.bad)) ?step ?still ?store ?fin)
          case step =>
            intro j o t act u ho hdt hpu hsz hu hfr hin
            have hj : j < 14 := (Array.getElem?_eq_some_iff.1 ho).1
            obtain ⟨c0, c1, c2, f0, f1, f2, lt⟩ := ht.later hu
            rcases (by omega : j = 0 ∨ j = 1 ∨ j = 2 ∨ j = 3 ∨ j = 4 ∨ j = 5 ∨ j = 6 ∨ j = 7 ∨ j = 8 ∨ j = 9 ∨ j = 10 ∨ j = 11 ∨ j = 12 ∨ j = 13) with rfl | rfl | rfl | rfl | rfl | rfl | rfl | rfl | rfl | rfl | rfl | rfl | rfl | rfl
            · simp only [List.getElem?_toArray, List.getElem?_cons_zero, List.getElem?_cons_succ, Option.some.injEq] at ho
              subst ho
              obtain rfl := Option.some.inj hdt
              have i5 : act.eval (.tmp (5 : Nat)) = .pointer (some ⟨w2.heap.size, 0, none⟩) := hfr 5 (by decide)
              exact plain_wp (by intro c h; cases h) (fun _ _ => trivial) (by simp only [execOp, i5, evalC, evalF, evalG]; simp [go_sem, c0, c1, c2, hq1, hq3, hq5, WA, WQ]) ⟨_, rfl, rfl, Bl.refl _⟩
            · simp only [List.getElem?_toArray, List.getElem?_cons_zero, List.getElem?_cons_succ, Option.some.injEq] at ho
              subst ho
              obtain rfl := Option.some.inj hdt
              have i29 : (act.eval (.tmp (29 : Nat))) = .pointer (some ⟨w2.heap.size, 2, none⟩) := hin ⟨0, .data⟩ (by simp) rfl 29 rfl
              exact plain_wp (by intro c h; cases h) (fun _ _ => trivial) (by simp only [execOp, i29, evalC, evalF, evalG]; simp [go_sem, c0, c1, c2, hq1, hq3, hq5, WA, WQ]) ⟨_, rfl, rfl, Bl.refl _⟩
            · simp only [List.getElem?_toArray, List.getElem?_cons_zero, List.getElem?_cons_succ, Option.some.injEq] at ho
              subst ho
              obtain rfl := Option.some.inj hdt
              have i8 : act.eval (.tmp (8 : Nat)) = .int .i64 i := hfr 8 (by decide)
              exact plain_wp (by intro c h; cases h) (fun _ _ => trivial) (by simp only [execOp, i8, evalC, evalF, evalG]; simp [go_sem]) ⟨_, rfl, rfl, Bl.refl _⟩
            · simp only [List.getElem?_toArray, List.getElem?_cons_zero, List.getElem?_cons_succ, Option.some.injEq] at ho
              subst ho
              obtain rfl := Option.some.inj hdt
              have i0 : act.eval (.tmp (0 : Nat)) = .int .i64 n := hfr 0 (by decide)
              exact plain_wp (by intro c h; cases h) (fun _ _ => trivial) (by simp only [execOp, i0, evalC, evalF, evalG]; simp [go_sem]) ⟨_, rfl, rfl, Bl.refl _⟩
            · simp only [List.getElem?_toArray, List.getElem?_cons_zero, List.getElem?_cons_succ, Option.some.injEq] at ho
              subst ho
              obtain rfl := Option.some.inj hdt
              have i31 : (act.eval (.tmp (31 : Nat))) = .int .i64 i := hin ⟨2, .data⟩ (by simp) rfl 31 rfl
              have i32 : (act.eval (.tmp (32 : Nat))) = .int .i64 n := hin ⟨3, .data⟩ (by simp) rfl 32 rfl
              exact plain_wp (by intro c h; cases h) (fun _ _ => trivial) (by simp only [execOp, i31, i32, evalC, evalF, evalG]; simp [go_sem, c0, c1, c2, hq1, hq3, hq5, WA, WQ]) ⟨_, rfl, rfl, Bl.refl _⟩
            · simp only [List.getElem?_toArray, List.getElem?_cons_zero, List.getElem?_cons_succ, Option.some.injEq] at ho
              subst ho
              obtain rfl := Option.some.inj hdt
              have i7 : act.eval (.tmp (7 : Nat)) = .int .i64 k := hfr 7 (by decide)
              exact plain_wp (by intro c h; cases h) (fun _ _ => trivial) (by simp only [execOp, i7, evalC, evalF, evalG]; simp [go_sem]) ⟨_, rfl, rfl, Bl.refl _⟩
            · simp only [List.getElem?_toArray, List.getElem?_cons_zero, List.getElem?_cons_succ, Option.some.injEq] at ho
              subst ho
              obtain rfl := Option.some.inj hdt
              have i33 : (act.eval (.tmp (33 : Nat))) = .int .i64 a := hin ⟨4, .data⟩ (by simp) rfl 33 rfl
              have i34 : (act.eval (.tmp (34 : Nat))) = .int .i64 k := hin ⟨5, .data⟩ (by simp) rfl 34 rfl
              exact plain_wp (by intro c h; cases h) (fun _ _ => trivial) (by simp only [execOp, i33, i34, evalC, evalF, evalG]; simp [go_sem, c0, c1, c2, hq1, hq3, hq5, WA, WQ]) ⟨_, rfl, rfl, Bl.refl _⟩
            · simp only [List.getElem?_toArray, List.getElem?_cons_zero, List.getElem?_cons_succ, Option.some.injEq] at ho
              subst ho
              obtain rfl := Option.some.inj hdt
              have i1 : act.eval (.tmp (1 : Nat)) = .func (.func G) #[] #[.pointer (some ⟨pb, 0, none⟩)] := hfr 1 (by decide)
              exact plain_wp (by intro c h; cases h) (fun _ _ => trivial) (by simp only [execOp, i1, evalC, evalF, evalG]; simp [go_sem]) ⟨_, rfl, rfl, Bl.refl _⟩
            · simp only [List.getElem?_toArray, List.getElem?_cons_zero, List.getElem?_cons_succ, Option.some.injEq] at ho
              subst ho
              obtain rfl := Option.some.inj hdt
              have i5 : act.eval (.tmp (5 : Nat)) = .pointer (some ⟨w2.heap.size, 0, none⟩) := hfr 5 (by decide)
              exact plain_wp (by intro c h; cases h) (fun _ _ => trivial) (by simp only [execOp, i5, evalC, evalF, evalG]; simp [go_sem, c0, c1, c2, hq1, hq3, hq5, WA, WQ]) ⟨_, rfl, rfl, Bl.refl _⟩
            · simp only [List.getElem?_toArray, List.getElem?_cons_zero, List.getElem?_cons_succ, Option.some.injEq] at ho
              subst ho
              obtain rfl := Option.some.inj hdt
              have i8 : act.eval (.tmp (8 : Nat)) = .int .i64 i := hfr 8 (by decide)
              exact plain_wp (by intro c h; cases h) (fun _ _ => trivial) (by simp only [execOp, i8, evalC, evalF, evalG]; simp [go_sem]) ⟨_, rfl, rfl, Bl.refl _⟩
            · simp only [List.getElem?_toArray, List.getElem?_cons_zero, List.getElem?_cons_succ, Option.some.injEq] at ho
              subst ho
              obtain rfl := Option.some.inj hdt
              have i7 : act.eval (.tmp (7 : Nat)) = .int .i64 k := hfr 7 (by decide)
              exact plain_wp (by intro c h; cases h) (fun _ _ => trivial) (by simp only [execOp, i7, evalC, evalF, evalG]; simp [go_sem]) ⟨_, rfl, rfl, Bl.refl _⟩
            · simp only [List.getElem?_toArray, List.getElem?_cons_zero, List.getElem?_cons_succ, Option.some.injEq] at ho
              subst ho
              obtain rfl := Option.some.inj hdt
              have i36 : (act.eval (.tmp (36 : Nat))) = .func (.func G) #[] #[.pointer (some ⟨pb, 0, none⟩)] := hin ⟨7, .data⟩ (by simp) rfl 36 rfl
              have i37 : (act.eval (.tmp (37 : Nat))) = mV n n (some ⟨g, 0, none⟩) N cap := hin ⟨8, .data⟩ (by simp) rfl 37 rfl
              have i38 : (act.eval (.tmp (38 : Nat))) = .int .i64 i := hin ⟨9, .data⟩ (by simp) rfl 38 rfl
              have i39 : (act.eval (.tmp (39 : Nat))) = .int .i64 k := hin ⟨10, .data⟩ (by simp) rfl 39 rfl
              refine enter_wp G #[mV n n (some ⟨g, 0, none⟩) N cap, .int .i64 i, .int .i64 k, .pointer (some ⟨pb, 0, none⟩)] (by intro c h; cases h) (fun _ _ => trivial) (by simp only [execOp, evalC, evalF, evalG, resolve, i36, i37, i38, i39, List.map_toArray, List.map_cons, List.map_nil]; simp [invoke, eg, Result.andThen, go_sem]) (fun h => by cases h) (callsIn_wide.2 (CL.out u hu)) ?_
              rintro e w' ⟨rfl, hb⟩
              exact ⟨_, rfl, _, rfl, rfl, hb⟩
            · simp only [List.getElem?_toArray, List.getElem?_cons_zero, List.getElem?_cons_succ, Option.some.injEq] at ho
              subst ho
              obtain rfl := Option.some.inj hdt
              have i30 : (act.eval (.tmp (30 : Nat))) = .slice (some ⟨g, 0, none⟩) N cap := hin ⟨1, .data⟩ (by simp) rfl 30 rfl
              have i35 : (act.eval (.tmp (35 : Nat))) = .int .i64 q := hin ⟨6, .data⟩ (by simp) rfl 35 rfl
              exact plain_wp (by intro c h; cases h) (fun _ _ => trivial) (by simp only [execOp, i30, i35, evalC, evalF, evalG]; simp [go_sem, c0, c1, c2, hq1, hq3, hq5, WA, WQ]) ⟨_, rfl, rfl, Bl.refl _⟩
            · simp only [List.getElem?_toArray, List.getElem?_cons_zero, List.getElem?_cons_succ, Option.some.injEq] at ho
              subst ho
              cases hdt
          case still =>
            intro j o t act u0 u ho hdt hpu
            cases hpu
          case store =>
            intro o act u vs ho hsz hu hfr hin
            simp only [List.getElem?_toArray, List.getElem?_cons_zero, List.getElem?_cons_succ, Option.some.injEq] at ho
            subst ho
            obtain ⟨i40, k40⟩ : act.eval (.tmp (40 : Nat)) = vs 11 ∧ ((vs 11) = enV x) := hin 11 40 rfl rfl
            obtain ⟨i41, k41⟩ : act.eval (.tmp (41 : Nat)) = vs 12 ∧ ((vs 12) = .pointer (some ⟨g, q * 4, none⟩)) := hin 12 41 rfl rfl
            have y0 : u.cell? ⟨g, q * 4, none⟩ = some (.int .i64 y.v) := (bl_cell hu _ _ hgl).trans (CX 0 _ rfl); have e0 : u.frozen? ⟨g, q * 4, none⟩ = false := (bl_froz hu _ _ hgl).trans (FZ _); have y1 : u.cell? ⟨g, q * 4 + 1, none⟩ = some (.int .i64 y.l) := (bl_cell hu _ _ hgl).trans (CX 1 _ rfl); have e1 : u.frozen? ⟨g, q * 4 + 1, none⟩ = false := (bl_froz hu _ _ hgl).trans (FZ _); have y2 : u.cell? ⟨g, q * 4 + 2, none⟩ = some (.int .i64 y.h) := (bl_cell hu _ _ hgl).trans (CX 2 _ rfl); have e2 : u.frozen? ⟨g, q * 4 + 2, none⟩ = false := (bl_froz hu _ _ hgl).trans (FZ _); have y3 : u.cell? ⟨g, q * 4 + 3, none⟩ = some (.bool y.bad) := (bl_cell hu _ _ hgl).trans (CX 3 _ rfl); have e3 : u.frozen? ⟨g, q * 4 + 3, none⟩ = false := (bl_froz hu _ _ hgl).trans (FZ _)
            rw [k41] at i41
            rw [k40] at i40
            exact skip_wp (by intro c h; cases h) (fun _ _ => trivial) (by simp only [execOp, i41, i40]; simp [go_sem, y0, e0, y1, e1, y2, e2, y3, e3]) ⟨rfl, rfl⟩
          case fin =>
            intro vs vb u0 u hu hin hps
            have a0 := hin 0 29 rfl
            have a1 := hin 1 30 rfl
            have a2 := hin 2 31 rfl
            have a3 := hin 3 32 rfl
            have a4 := hin 4 33 rfl
            have a5 := hin 5 34 rfl
            have a6 := hin 6 35 rfl
            have a7 := hin 7 36 rfl
            have a8 := hin 8 37 rfl
            have a9 := hin 9 38 rfl
            have a10 := hin 10 39 rfl
            have a11 := hin 11 40 rfl
            have a12 := hin 12 41 rfl
            simp only [putL, Act.put, List.setIfInBounds_toArray, List.set_cons_zero, List.set_cons_succ, Nat.zero_add, Nat.reduceAdd, Nat.reduceBEq, Bool.or_false, Bool.or_true, Bool.false_or, Bool.true_or, Bool.false_eq_true, if_false, if_true, reduceIte, Nat.reduceEqDiff, beq_self_eq_true, Bool.or_self] at a0 a1 a2 a3 a4 a5 a6 a7 a8 a9 a10 a11 a12 ⊢
            rw [if_pos (by decide)] at hps
            simp only [a0, a1, a2, a3, a4, a5, a6, a7, a8, a9, a10, a11, a12]
            subst hps
            have hq' : q < (mk n n f).length := by rw [mk_len, ← HN.out]; exact hq5
            have OP := hideP (own_putN (own_blN OW.out hu) hq' x)
            rw [HP.out, mk_put hlt2 hlt, ← HP.out, ← HT.out] at OP
            have tS := hideP (mbox_putX (ht.later hu) (show w2.heap.size ≠ g by omega) (q * 4) [.int .i64 x.v, .int .i64 x.l, .int .i64 x.h, .bool x.bad])
            have zS := hideP (mbox_putX (hz.later hu) (show w.heap.size ≠ g by omega) (q * 4) [.int .i64 x.v, .int .i64 x.l, .int .i64 x.h, .bool x.bad])
            have bS := hideP (bl_putX (hB.trans hu) (show w.heap.size ≤ g by omega) (q * 4) [.int .i64 x.v, .int .i64 x.l, .int .i64 x.h, .bool x.bad])
            clear ht hz OW
            go_wp2
            go_roundw
            case rel => exact ⟨m + 1, by rw [HI.out]; simp; omega, by have := HI.out; omega, OP.out, tS.out, zS.out, bS.out⟩
            case measure => simp [intOf]; omega
        · have hni : n = i := by omega
          subst hni
          have e : n - k = m := by omega
          have HT := hideP (show triT val (wholeN 0) n (k + 1) = colT val k (triT val (wholeN 0) n k) m by rw [← e]; rfl)
          go_wp2_with fail
          go_roundw
          case rel => exact ⟨k + 1, by simp, hlt, by rw [HT.out]; exact hown, ht, hz, hB⟩
          case measure => simp [intOf]; omega
    · obtain rfl : k = n := by omega
      have RW := hideP (show Rw 4 cellsN wr (.slice (some ⟨g, 0, none⟩) N cap) (mk k k (triT val (wholeN 0) k k)) from Rw.of_own cellsN_len (xs := mk k k (triT val (wholeN 0) k k)) (by rw [mk_len, ← HN.out]; exact hown))
      have FR := hideP (show Fresh (w.heap.size + 1) (.slice (some ⟨g, 0, none⟩) N cap) from fun b hb => (hown.lt b hb).1)
      obtain ⟨c0, c1, c2, f0, f1, f2, lt⟩ := hz
      obtain ⟨d0, d1, d2, g0, g1, g2, lt2⟩ := ht
      clear hown
      go_wp2
      simp [bodyPost, results, Tryz.results116, go_sem, c0, c1, c2]
      have q := ((RW.out.set (p := ⟨w.heap.size, 0, none⟩) (.int .i64 k) FR.out).set (p := ⟨w.heap.size, 1, none⟩) (.int .i64 k) FR.out).set (p := ⟨w.heap.size, 2, none⟩) (.slice (some ⟨g, 0, none⟩) N cap) FR.out
      exact ⟨_, _, ⟨rfl, rfl⟩, ⟨⟨hd, HN.out, q.q⟩, fun b hb => by have := FR.out b hb; omega⟩, Bl.put3 hB (Nat.le_refl _) _ _ _⟩
end Go.Proofs.YtljmggemdkfbiaaGreat
