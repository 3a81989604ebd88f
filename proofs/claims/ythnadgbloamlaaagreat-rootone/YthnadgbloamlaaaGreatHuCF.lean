/- Contracts of house's away, less, of fractions (layer 8). Written by genHu.py. -/
import Derived.Test.YthnadgbloamlaaaGreatHuBF
import Derived.Test.YthnadgbloamlaaaGreatTrRF
import Derived.Test.YthnadgbloamlaaaGreatVeHF
import Derived.Test.YthnadgbloamlaaaGreatHsQ
namespace Go.Proofs.YthnadgbloamlaaaGreat
open Go.RowKit Go.Shelf
set_option linter.unusedSimpArgs false
set_option linter.unusedVariables false
attribute [local go_sem] Oper.semAt_some

theorem Tryz.hSignF (x : Value) (w : World) : (method 370 64 x "Sign").run Tryz.prog w = .ok (273, x) w := by kernel_rfl
theorem Tryz.hNegF (x : Value) (w : World) : (method 370 64 x "Neg").run Tryz.prog w = .ok (270, x) w := by kernel_rfl
theorem Tryz.hAddF (x : Value) (w : World) : (method 370 64 x "Add").run Tryz.prog w = .ok (266, x) w := by kernel_rfl
/-- Whether it is below 0. -/
def lowFr (x : Fr) : Bool := decide (signR x < 0)
theorem hAwayF (v : Value) (xs : List Fr) (x : Fr) (w : World) (h : Rq 3 cellsF w v xs) (hl : xs.length ≤ 1000000) (hx : xs[0]? = some x) :
    Calls Tryz.prog 176 #[v] w fun e w' => e = .returned (frV (if lowFr x = true then rootR (dotF xs xs) else negR (rootR (dotF xs xs)))) ∧ Bl w w' := by
  have mr := Tryz.mRootF
  have ms := Tryz.hSignF
  have mn := Tryz.hNegF
  have hlen : 0 < xs.length := (List.getElem?_eq_some_iff.1 hx).1
  obtain ⟨b, o, cap, rfl, hcap, hb, CX⟩ : ∃ b o cap, v = .slice (some ⟨b, o, none⟩) xs.length cap ∧ xs.length ≤ cap ∧ b < w.heap.size ∧ ∀ k u, (cellsF x)[k]? = some u → w.cell? ⟨b, o + k, none⟩ = some u := by
    rcases h with ⟨p, cap, _, rfl, _⟩ | ⟨b, o, cap, e, hc, hb, hq⟩
    · simp at hlen
    · exact ⟨b, o, cap, e, hc, hb, fun k u hu => by have := hq 0 x hx k u hu; simpa using this⟩
  have DOT := hideP (fun u (hu : Bl w u) => vDotF (.slice (some ⟨b, o, none⟩) xs.length cap) (.slice (some ⟨b, o, none⟩) xs.length cap) xs xs u (h.later hu) (h.later hu) hl hl)
  obtain ⟨d, hd⟩ : ∃ d, d = dotF xs xs := ⟨_, rfl⟩
  rw [← hd] at DOT ⊢
  obtain ⟨r, hr⟩ : ∃ r, r = rootR d := ⟨_, rfl⟩
  have ROOT := hideP (fun u => by have := rroot_any d u; rw [← hr] at this; exact this)
  rw [← hr]
  obtain ⟨l, hl0⟩ : ∃ l, l = xs.length := ⟨_, rfl⟩
  rw [← hl0] at DOT hlen hcap ⊢
  have HX := hideP CX
  clear h hx hd hr hl hl0 CX
  have SG := hideP (show lowFr x = decide (signR x < 0) from rfl)
  have SGC := hideP (fun u => rsign_any x u)
  generalize signR x = sg at *
  generalize lowFr x = lo at *
  obtain ⟨W, hW⟩ : ∃ W, W = w.alloc (.cells #[.int .i64 0, .int .i64 0, .bool false] 64) := ⟨_, rfl⟩
  have b0 : Bl w W := by rw [hW]; exact (Bl.refl _).alloc _
  have x0 : FBox W w.heap.size zeroR := by rw [hW]; exact FBox.new w zeroR 64
  have HW := hideP hW
  clear hW
  go_enter Tryz.func176, Tryz.ntmps176
  go_wp2_with fail
  rw [← HW.out]
  refine (DOT.out _ b0).mono ?_
  rintro e w1 ⟨rfl, h1⟩
  go_wp2_with fail
  refine (ROOT.out _).mono ?_
  rintro e w2 ⟨rfl, h2⟩
  obtain ⟨W2, hW2⟩ : ∃ W2, W2 = w2.alloc (.cells #[.int .i64 r.n, .int .i64 r.d, .bool r.bad] 64) := ⟨_, rfl⟩
  have b2 : Bl w2 W2 := by rw [hW2]; exact (Bl.refl _).alloc _
  have k2 := FBox.new w2 r 64
  rw [← hW2] at k2
  have y0 := (x0.later (h1.trans h2)).later b2
  have wW2 : Bl w W2 := b0.trans ((h1.trans h2).trans b2)
  have q0 : w2.cell? ⟨b, o, none⟩ = some (.int .i64 x.n) := (bl_cell (b0.trans (h1.trans h2)) _ _ hb).trans (HX.out 0 _ rfl)
  have q1 : w2.cell? ⟨b, o + 1, none⟩ = some (.int .i64 x.d) := (bl_cell (b0.trans (h1.trans h2)) _ _ hb).trans (HX.out 1 _ rfl)
  have q2 : w2.cell? ⟨b, o + 2, none⟩ = some (.bool x.bad) := (bl_cell (b0.trans (h1.trans h2)) _ _ hb).trans (HX.out 2 _ rfl)
  have hb2 : b < w2.heap.size := Nat.lt_of_lt_of_le hb (Below.size (b0.trans (h1.trans h2)))
  have HW2 := hideP hW2
  clear hW2 DOT ROOT
  go_wp2_with fail
  rw [← HW2.out]
  refine (SGC.out _).mono ?_
  rintro e w3 ⟨rfl, h3⟩
  clear q0 q1 q2
  obtain ⟨c0, c1, c2, f0, f1, f2, lt3⟩ := k2.later h3
  obtain ⟨d0, d1, d2, g0, g1, g2, lt4⟩ := y0.later h3
  by_cases hs : sg < 0
  · have hlo : lo = true := by rw [SG.out]; exact decide_eq_true hs
    subst hlo
    go_wp2
    simp [bodyPost, results, Tryz.results176, go_sem, c0, c1, c2, d0, d1, d2]
    exact Bl.set3 (wW2.trans h3) (Nat.le_refl _) _ _ _
  · have hlo : lo = false := by rw [SG.out]; exact decide_eq_false hs
    subst hlo
    go_wp2_with fail
    refine (rneg_any r _).mono ?_
    rintro e w4 ⟨rfl, h4⟩
    clear c0 c1 c2 f0 f1 f2 d0 d1 d2 g0 g1 g2
    obtain ⟨d0, d1, d2, g0, g1, g2, lt5⟩ := (y0.later h3).later h4
    go_wp2
    simp [bodyPost, results, Tryz.results176, go_sem, d0, d1, d2]
    exact Bl.set3 ((wW2.trans h3).trans h4) (Nat.le_refl _) _ _ _
end Go.Proofs.YthnadgbloamlaaaGreat
