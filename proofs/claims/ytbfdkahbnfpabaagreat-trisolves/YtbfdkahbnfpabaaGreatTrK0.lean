/- What is solved of whole numbers: back again, and enclosed (layer 7, TriSolves). -/
import Derived.Test.YtbfdkahbnfpabaaGreatTrVF
import Derived.Test.YtbfdkahbnfpabaaGreatTrVN
import Derived.Test.YtbfdkahbnfpabaaGreatTrU0
import Derived.Test.YtbfdkahbnfpabaaGreatMaZ
namespace Go.Proofs.YtbfdkahbnfpabaaGreat
open Go.RowKit
set_option linter.unusedSimpArgs false
set_option linter.unusedVariables false

theorem map_range8 {α : Type} {xb : List Int} {m : Nat} (h : xb.length = m) (f : Int → α) : xb.map f = (List.range m).map fun i => f (xb.getD i 0) := by
  refine List.ext_getElem? fun i => ?_
  rw [List.getElem?_map, List.getElem?_map]
  by_cases hi : i < m
  · rw [List.getElem?_range hi, List.getElem?_eq_getElem (by omega)]
    simp [List.getD_eq_getElem?_getD, show i < xb.length by omega]
  · rw [List.getElem?_eq_none (by omega), List.getElem?_eq_none (by simp; omega)]
    rfl
theorem get_map8 {α : Type} {n t : Nat} (f : Nat → α) (h : t < n) {y : α} (hy : y = f t) {ys : List α} (hys : ys = (List.range n).map f) : ys[t]? = some y := by subst hy hys; simp [h]
theorem clrF_it8 (f : Nat → Nat → Int) (i k : Nat) : clrF (fun i k => itF (f i k)) i k = itF (clrI f i k) := by
  unfold clrF clrI
  split <;> rfl
theorem fold_fine8 : ∀ (xs : List Fr) (a : Fr), fineR a = !a.bad → fineR (xs.foldl addR a) = !(xs.foldl addR a).bad
  | [], a, h => h
  | x :: xs, a, _ => fold_fine8 xs (addR a x) (by
    unfold addR
    split
    · rw [ofQ_fine, ofQ_bad, Bool.not_not]
    · rfl)
theorem dot_fine8 (xs ys : List Fr) : fineR (dotF xs ys) = !(dotF xs ys).bad := fold_fine8 _ _ rfl
theorem div_fine8 (a b : Fr) : fineR (divR a b) = !(divR a b).bad := by
  unfold divR
  split
  · rw [ofQ_fine, ofQ_bad, Bool.not_not]
  · rfl
/-- In fractions. -/
abbrev solI (m : Nat) (fa : Nat → Nat → Int) (bI : Nat → Int) : List Fr := solveTo subR divR dotF (fun i k => itF (fa i k)) (fun i => wholeF (bI i)) m
/-- Enclosed. -/
abbrev solN (m : Nat) (fa : Nat → Nat → Int) (bI : Nat → Int) : List En := solveTo subE divE dotN (fun i k => wholeN (fa i k)) (fun i => wholeN (bI i)) m
theorem sol_back8 {m k : Nat} {fa : Nat → Nat → Int} {bI : Nat → Int} (hk : k < m) (hb : Wh (bI k)) (hbad : (dotF (rowM m (fun i k => itF (clrI fa i k)) k) (solI m fa bI)).bad = false) : dotF (rowM m (fun i k => itF (clrI fa i k)) k) (solI m fa bI) = itF (bI k) := by
  rw [← whole_it hb]
  refine solve_back (s := fun i k => itF (fa i k)) (b := fun i => wholeF (bI i)) hk (fun j hj => ?_) (fun j hj => ?_) (by rw [dot_fine8, hbad]; rfl)
  · show itF (clrI fa k j) = itF (fa k j)
    unfold clrI
    rw [if_pos hj]
  · show toQ (itF (clrI fa k j)) = 0
    unfold clrI
    rw [if_neg (by omega)]
    exact toQ_whole 0
theorem sol_encl8 {m k : Nat} {fa : Nat → Nat → Int} {bI : Nat → Int} (hm : m ≤ 16) (hs : Sm2 100 m m fa) (hk : k < m) {x : Fr} {z : En} (hx : (solI m fa bI)[k]? = some x) (hz : (solN m fa bI)[k]? = some z) (hxb : x.bad = false) (hzb : z.bad = false) : enclB z x.n x.d = true := by
  have e := solveTo_enc (n := m) (s := fun i k => wholeN (fa i k)) (f := fun i k => itF (fa i k)) (b := fun i => wholeN (bI i)) (c := fun i => wholeF (bI i))
    (fun i j hi hj => by have := hs i j hi hj; rw [← whole_it (show Wh (fa i j) from ⟨by omega, by omega⟩)]; exact encF_whole _) (fun i _ => encF_whole _) m (Nat.le_refl _)
  have hf : fineR x = true := by
    rw [solveTo_get _ _ _ _ _ hk] at hx
    cases hx
    unfold solveAt at hxb ⊢
    rw [div_fine8, hxb]
    rfl
  have h := encL_get e k z x hz hx hf
  obtain ⟨_, h1, h2, h3, h4, _⟩ := fineR_iff.1 hf
  exact encl_enq h ⟨by omega, by omega⟩ ⟨h1, h2⟩ hzb
/-- Whole, of rows. -/
theorem wholeF8 (p : Option Addr) (n cap : Nat) (xb : List Int) (w : World) (h : Rq 1 cI w (.slice p n cap) xb) (hn : xb.length = n) (hl : n ≤ 1000000) :
    Calls Tryz.prog 17 #[.slice p n cap] w fun e w' => ∃ q c, e = .returned (.slice q n c) ∧ Rw 3 cellsF w' (.slice q n c) ((List.range n).map fun i => wholeF (xb.getD i 0)) ∧ Bl w w' := by
  refine (vWholeF _ xb w h (by omega)).mono ?_
  rintro e w' ⟨u, rfl, hr, hb⟩
  obtain ⟨q, c, hv, _, _⟩ := hr.cut
  rw [List.length_map, hn] at hv
  subst hv
  rw [map_range8 hn] at hr
  exact ⟨q, c, rfl, hr, hb⟩
theorem wholeN8 (p : Option Addr) (n cap : Nat) (xb : List Int) (w : World) (h : Rq 1 cI w (.slice p n cap) xb) (hn : xb.length = n) (hl : n ≤ 1000000) :
    Calls Tryz.prog 21 #[.slice p n cap] w fun e w' => ∃ q c, e = .returned (.slice q n c) ∧ Rw 4 cellsN w' (.slice q n c) ((List.range n).map fun i => wholeN (xb.getD i 0)) ∧ Bl w w' := by
  refine (vWholeN _ xb w h (by omega)).mono ?_
  rintro e w' ⟨u, rfl, hr, hb⟩
  obtain ⟨q, c, hv, _, _⟩ := hr.cut
  rw [List.length_map, hn] at hv
  subst hv
  rw [map_range8 hn] at hr
  exact ⟨q, c, rfl, hr, hb⟩
/-- A row's cells. -/
theorem rwF8 {p : Option Addr} {n cap : Nat} {xs : List Fr} {w : World} (h : Rw 3 cellsF w (.slice p n cap) xs) (h0 : 0 < xs.length) : ∃ g o, p = some ⟨g, o, none⟩ ∧ ∀ k x, xs[k]? = some x → ∀ u, Bl w u → u.cell? ⟨g, o + k * 3, none⟩ = some (.int .i64 x.n) ∧ u.cell? ⟨g, o + k * 3 + 1, none⟩ = some (.int .i64 x.d) ∧ u.cell? ⟨g, o + k * 3 + 2, none⟩ = some (.bool x.bad) := by
  rcases h with ⟨_, e⟩ | ⟨g, o, c, e, _, hlt, hx⟩
  · rw [e] at h0; simp at h0
  · simp only [Value.slice.injEq] at e
    exact ⟨g, o, e.1, fun k x hk u hu => ⟨(bl_cell hu _ _ hlt).trans (hx k x hk 0 _ rfl), (bl_cell hu _ _ hlt).trans (hx k x hk 1 _ rfl), (bl_cell hu _ _ hlt).trans (hx k x hk 2 _ rfl)⟩⟩
theorem rwN8 {p : Option Addr} {n cap : Nat} {xs : List En} {w : World} (h : Rw 4 cellsN w (.slice p n cap) xs) (h0 : 0 < xs.length) : ∃ g o, p = some ⟨g, o, none⟩ ∧ ∀ k x, xs[k]? = some x → ∀ u, Bl w u → u.cell? ⟨g, o + k * 4, none⟩ = some (.int .i64 x.v) ∧ u.cell? ⟨g, o + k * 4 + 1, none⟩ = some (.int .i64 x.l) ∧ u.cell? ⟨g, o + k * 4 + 2, none⟩ = some (.int .i64 x.h) ∧ u.cell? ⟨g, o + k * 4 + 3, none⟩ = some (.bool x.bad) := by
  rcases h with ⟨_, e⟩ | ⟨g, o, c, e, _, hlt, hx⟩
  · rw [e] at h0; simp at h0
  · simp only [Value.slice.injEq] at e
    exact ⟨g, o, e.1, fun k x hk u hu => ⟨(bl_cell hu _ _ hlt).trans (hx k x hk 0 _ rfl), (bl_cell hu _ _ hlt).trans (hx k x hk 1 _ rfl), (bl_cell hu _ _ hlt).trans (hx k x hk 2 _ rfl), (bl_cell hu _ _ hlt).trans (hx k x hk 3 _ rfl)⟩⟩
end Go.Proofs.YtbfdkahbnfpabaaGreat
