/- Contracts of house's away, less, of enclosed numbers (layer 8). Written by genHu.py. -/
import Derived.Test.YtljmggemdkfbiaaGreatHuBN
import Derived.Test.YtljmggemdkfbiaaGreatTrRN
import Derived.Test.YtljmggemdkfbiaaGreatVeHN
import Derived.Test.YtljmggemdkfbiaaGreatHsY
namespace Go.Proofs.YtljmggemdkfbiaaGreat
open Go.RowKit Go.Shelf
set_option linter.unusedSimpArgs false
set_option linter.unusedVariables false
attribute [local go_sem] Oper.semAt_some

theorem Tryz.hSignN (x : Value) (w : World) : (method 327 52 x "Sign").run Tryz.prog w = .ok (207, x) w := by kernel_rfl
theorem Tryz.hNegN (x : Value) (w : World) : (method 327 52 x "Neg").run Tryz.prog w = .ok (205, x) w := by kernel_rfl
theorem Tryz.hAddN (x : Value) (w : World) : (method 327 52 x "Add").run Tryz.prog w = .ok (202, x) w := by kernel_rfl

theorem hAwayN (v : Value) (xs : List En) (x : En) (w : World) (h : Rq 4 cellsN w v xs) (hl : xs.length ≤ 1000000) (hx : xs[0]? = some x) :
    Calls Tryz.prog 154 #[v] w fun e w' => e = .returned (enV (if lowN x = true then rootE (dotN xs xs) else negE (rootE (dotN xs xs)))) ∧ Bl w w' := by
  have mr := Tryz.mRootN
  have ms := Tryz.hSignN
  have mn := Tryz.hNegN
  have hlen : 0 < xs.length := (List.getElem?_eq_some_iff.1 hx).1
  obtain ⟨b, o, cap, rfl, hcap, hb, CX⟩ : ∃ b o cap, v = .slice (some ⟨b, o, none⟩) xs.length cap ∧ xs.length ≤ cap ∧ b < w.heap.size ∧ ∀ k u, (cellsN x)[k]? = some u → w.cell? ⟨b, o + k, none⟩ = some u := by
    rcases h with ⟨p, cap, _, rfl, _⟩ | ⟨b, o, cap, e, hc, hb, hq⟩
    · simp at hlen
    · exact ⟨b, o, cap, e, hc, hb, fun k u hu => by have := hq 0 x hx k u hu; simpa using this⟩
  have DOT := hideP (fun u (hu : Bl w u) => vDotN (.slice (some ⟨b, o, none⟩) xs.length cap) (.slice (some ⟨b, o, none⟩) xs.length cap) xs xs u (h.later hu) (h.later hu) hl hl)
  obtain ⟨d, hd⟩ : ∃ d, d = dotN xs xs := ⟨_, rfl⟩
  rw [← hd] at DOT ⊢
  obtain ⟨r, hr⟩ : ∃ r, r = rootE d := ⟨_, rfl⟩
  have ROOT := hideP (fun u => by have := eroot_any d u; rw [← hr] at this; exact this)
  rw [← hr]
  obtain ⟨l, hl0⟩ : ∃ l, l = xs.length := ⟨_, rfl⟩
  rw [← hl0] at DOT hlen hcap ⊢
  have HX := hideP CX
  clear h hx hd hr hl hl0 CX
  have SG := hideP (show lowN x = decide (signE x < 0) from rfl)
  have SGC := hideP (fun u => signE_any x u)
  generalize signE x = sg at *
  generalize lowN x = lo at *
  obtain ⟨W, hW⟩ : ∃ W, W = w.alloc (.cells #[.int .i64 0, .int .i64 0, .int .i64 0, .bool false] 52) := ⟨_, rfl⟩
  have b0 : Bl w W := by rw [hW]; exact (Bl.refl _).alloc _
  have x0 : Box W w.heap.size zeroE := by rw [hW]; exact Box.new w zeroE 52
  have HW := hideP hW
  clear hW
  go_enter Tryz.func154, Tryz.ntmps154
  go_wp2_with fail
  rw [← HW.out]
  refine (DOT.out _ b0).mono ?_
  rintro e w1 ⟨rfl, h1⟩
  go_wp2_with fail
  refine (ROOT.out _).mono ?_
  rintro e w2 ⟨rfl, h2⟩
  obtain ⟨W2, hW2⟩ : ∃ W2, W2 = w2.alloc (.cells #[.int .i64 r.v, .int .i64 r.l, .int .i64 r.h, .bool r.bad] 52) := ⟨_, rfl⟩
  have b2 : Bl w2 W2 := by rw [hW2]; exact (Bl.refl _).alloc _
  have k2 := Box.new w2 r 52
  rw [← hW2] at k2
  have y0 := (x0.later (h1.trans h2)).later b2
  have wW2 : Bl w W2 := b0.trans ((h1.trans h2).trans b2)
  have q0 : w2.cell? ⟨b, o, none⟩ = some (.int .i64 x.v) := (bl_cell (b0.trans (h1.trans h2)) _ _ hb).trans (HX.out 0 _ rfl)
  have q1 : w2.cell? ⟨b, o + 1, none⟩ = some (.int .i64 x.l) := (bl_cell (b0.trans (h1.trans h2)) _ _ hb).trans (HX.out 1 _ rfl)
  have q2 : w2.cell? ⟨b, o + 2, none⟩ = some (.int .i64 x.h) := (bl_cell (b0.trans (h1.trans h2)) _ _ hb).trans (HX.out 2 _ rfl)
  have q3 : w2.cell? ⟨b, o + 3, none⟩ = some (.bool x.bad) := (bl_cell (b0.trans (h1.trans h2)) _ _ hb).trans (HX.out 3 _ rfl)
  have hb2 : b < w2.heap.size := Nat.lt_of_lt_of_le hb (Below.size (b0.trans (h1.trans h2)))
  have HW2 := hideP hW2
  clear hW2 DOT ROOT
  go_wp2_with fail
  rw [← HW2.out]
  refine (SGC.out _).mono ?_
  rintro e w3 ⟨rfl, h3⟩
  clear q0 q1 q2 q3
  obtain ⟨c0, c1, c2, c3, f0, f1, f2, f3, lt3⟩ := k2.later h3
  obtain ⟨d0, d1, d2, d3, g0, g1, g2, g3, lt4⟩ := y0.later h3
  by_cases hs : sg < 0
  · have hlo : lo = true := by rw [SG.out]; exact decide_eq_true hs
    subst hlo
    go_wp2
    simp [bodyPost, results, Tryz.results154, go_sem, c0, c1, c2, c3, d0, d1, d2, d3]
    exact Bl.set4 (wW2.trans h3) (Nat.le_refl _) _ _ _ _
  · have hlo : lo = false := by rw [SG.out]; exact decide_eq_false hs
    subst hlo
    go_wp2_with fail
    refine (eneg_any r _).mono ?_
    rintro e w4 ⟨rfl, h4⟩
    clear c0 c1 c2 c3 f0 f1 f2 f3 d0 d1 d2 d3 g0 g1 g2 g3
    obtain ⟨d0, d1, d2, d3, g0, g1, g2, g3, lt5⟩ := (y0.later h3).later h4
    go_wp2
    simp [bodyPost, results, Tryz.results154, go_sem, d0, d1, d2, d3]
    exact Bl.set4 ((wW2.trans h3).trans h4) (Nat.le_refl _) _ _ _ _
end Go.Proofs.YtljmggemdkfbiaaGreat
