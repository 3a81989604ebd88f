/- For the document's Do (layer 3): its lists of pairs, and what it keeps in its loop. -/
import Derived.Test.YtfbioinmgchdcaaEnO
import Derived.Test.YtfbioinmgchdcaaEnL
import Derived.Test.YtfbioinmgchdcaaEn2
namespace Go.Proofs.Ytfbioinmgchdcaa
open Go.RowKit
set_option linter.unusedSimpArgs false
set_option linter.unusedVariables false

/-- A row of rows of two numbers, in a world. -/
def Pl (w : World) (L : Nat) (ps : List (Int × Int)) : Prop :=
  L < w.heap.size ∧ ∀ i, i < ps.length → ∃ b, b < w.heap.size ∧ w.cell? ⟨L, i, none⟩ = some (.slice (some ⟨b, 0, none⟩) 2 2) ∧
    w.cell? ⟨b, 0, none⟩ = some (.int .i64 (ps.getD i (0, 0)).1) ∧ w.cell? ⟨b, 1, none⟩ = some (.int .i64 (ps.getD i (0, 0)).2)
theorem Pl.later {w w' : World} {L : Nat} {ps : List (Int × Int)} (h : Pl w L ps) (k : Bl w w') : Pl w' L ps := by
  have hs := Below.size k
  refine ⟨by have := h.1; omega, fun i hi => ?_⟩
  obtain ⟨b, hb, c, c0, c1⟩ := h.2 i hi
  exact ⟨b, by omega, by rw [bl_cell k _ _ h.1]; exact c, by rw [bl_cell k _ _ hb]; exact c0, by rw [bl_cell k _ _ hb]; exact c1⟩
/-- Which pairs of bounds (P3.1). -/
def lst (k : Int) (a b : En) : List (Int × Int) := if k = 1 then prsX a b else if k = 0 ∨ k = 4 then prs2 a b else prs4 a b
theorem lst_bd (k : Int) (a b : En) : 1 ≤ (lst k a b).length ∧ (lst k a b).length ≤ 4 := by
  unfold lst; split
  · simp [prsX]
  · split <;> simp [prs2, prs4]
/-- The least, and the greatest, so far. -/
def lowW (N : Int → Int → Int → Int) : List (Int × Int) → Int
  | [] => 0
  | p :: ps => ps.foldl (fun x q => min x (N q.1 q.2 1)) (N p.1 p.2 1)
def highR (N : Int → Int → Int → Int) : List (Int × Int) → Int
  | [] => 0
  | p :: ps => ps.foldl (fun x q => max x (N q.1 q.2 2)) (N p.1 p.2 2)
theorem lowW_one (N : Int → Int → Int → Int) (p : Int × Int) : lowW N ([] ++ [p]) = N p.1 p.2 1 := rfl
theorem highR_one (N : Int → Int → Int → Int) (p : Int × Int) : highR N ([] ++ [p]) = N p.1 p.2 2 := rfl
theorem lowW_snoc (N : Int → Int → Int → Int) (ps : List (Int × Int)) (p : Int × Int) (h : ps ≠ []) : lowW N (ps ++ [p]) = min (lowW N ps) (N p.1 p.2 1) := by
  cases ps with
  | nil => exact absurd rfl h
  | cons q qs => simp [lowW, List.foldl_append]
theorem highR_snoc (N : Int → Int → Int → Int) (ps : List (Int × Int)) (p : Int × Int) (h : ps ≠ []) : highR N (ps ++ [p]) = max (highR N ps) (N p.1 p.2 2) := by
  cases ps with
  | nil => exact absurd rfl h
  | cons q qs => simp [highR, List.foldl_append]
theorem lowW_is {N : Int → Int → Int → Int} (hN : Bd N) (ps : List (Int × Int)) (h : 1 ≤ ps.length) : lowW N ps = lowF N ps := by
  cases ps with
  | nil => simp at h
  | cons q qs =>
    have := hN q.1 q.2 1
    unfold lowW lowF
    rw [List.foldl_cons, show min 1125899906842624 (N q.1 q.2 1) = N q.1 q.2 1 by omega]
theorem highR_is {N : Int → Int → Int → Int} (hN : Bd N) (ps : List (Int × Int)) (h : 1 ≤ ps.length) : highR N ps = highF N ps := by
  cases ps with
  | nil => simp at h
  | cons q qs =>
    have := hN q.1 q.2 2
    unfold highR highF
    rw [List.foldl_cons, show max (-1125899906842624) (N q.1 q.2 2) = N q.1 q.2 2 by omega]
theorem take_ne (ps : List (Int × Int)) (k : Nat) (h : k < ps.length) (hk : k ≠ 0) : ps.take k ≠ [] := by
  intro e
  have := congrArg List.length e
  rw [List.length_take, List.length_nil] at this
  omega
/-- What Do tells. -/
def doE (k : Int) (N : Int → Int → Int → Int) (B : Int → Int → Int → Bool) (a b : En) : En := if (k == 3 && zeroB b) then wrongE else toldE N B a b (lst k a b)
/-- Is it refused at once? -/
def noB (k : Int) (a b : En) : Bool := !fineB a || (!fineB b || (k == 3 && zeroB b))
theorem do_no {k : Int} {N : Int → Int → Int → Int} {B : Int → Int → Int → Bool} {a b : En} (h : noB k a b = true) : doE k N B a b = wrongE := by
  unfold doE
  cases hz : (k == 3 && zeroB b)
  · rw [if_neg (by simp)]
    unfold noB at h
    rw [hz] at h
    cases ha : fineB a
    · exact told_nofine (.inl ha)
    · cases hb : fineB b
      · exact told_nofine (.inr hb)
      · rw [ha, hb] at h; cases h
  · rw [if_pos rfl]
theorem do_yes {k : Int} {N : Int → Int → Int → Int} {B : Int → Int → Int → Bool} {a b : En} (h : noB k a b = false) (hN : Bd N) :
    ((B a.v b.v 0 && okF B (lst k a b)) = false → doE k N B a b = wrongE) ∧ ((B a.v b.v 0 && okF B (lst k a b)) = true → doE k N B a b = ⟨N a.v b.v 0, lowW N (lst k a b), highR N (lst k a b), false⟩) := by
  unfold noB at h
  rw [Bool.or_eq_false_iff, Bool.or_eq_false_iff] at h
  obtain ⟨ha, hb, hz⟩ := h
  have ha' : fineB a = true := by simpa using ha
  have hb' : fineB b = true := by simpa using hb
  have hl := (lst_bd k a b).1
  unfold doE
  rw [hz, if_neg (by simp)]
  constructor
  · intro h
    apply told_bad
    unfold okE
    rw [ha', hb', Bool.and_true, Bool.and_true]
    exact h
  · intro h
    rw [lowW_is hN _ hl, highR_is hN _ hl]
    apply told_ok
    unfold okE
    rw [ha', hb', Bool.and_true, Bool.and_true]
    exact h
theorem Box.set1 {w : World} {b : Nat} {x : En} (h : Box w b x) (n : Int) : Box (w.setCell ⟨b, 1, none⟩ (.int .i64 n)) b ⟨x.v, n, x.h, x.bad⟩ := by
  obtain ⟨c0, c1, c2, c3, f0, f1, f2, f3, lt⟩ := h
  refine ⟨?_, ?_, ?_, ?_, ?_, ?_, ?_, ?_, ?_⟩ <;> simp [go_sem, *]
theorem Box.set2 {w : World} {b : Nat} {x : En} (h : Box w b x) (n : Int) : Box (w.setCell ⟨b, 2, none⟩ (.int .i64 n)) b ⟨x.v, x.l, n, x.bad⟩ := by
  obtain ⟨c0, c1, c2, c3, f0, f1, f2, f3, lt⟩ := h
  refine ⟨?_, ?_, ?_, ?_, ?_, ?_, ?_, ?_, ?_⟩ <;> simp [go_sem, *]
/-- The boxes that Do begins with. -/
structure Begin (w W : World) (a b : En) : Prop where
  eq : W = (((w.alloc (.cells #[.int .i64 a.v, .int .i64 a.l, .int .i64 a.h, .bool a.bad] 43)).alloc (.cells #[.int .i64 b.v, .int .i64 b.l, .int .i64 b.h, .bool b.bad] 43)).alloc (.cells #[.int .i64 0, .int .i64 0, .int .i64 0, .bool false] 43)).alloc (.cells #[.int .i64 0, .int .i64 0, .int .i64 0, .bool true] 43)
  bl : Bl w W
  ba : Box W w.heap.size a
  bb : Box W (w.heap.size + 1) b
  bz : Box W (w.heap.size + 1 + 1) zeroE
  bw : Box W (w.heap.size + 1 + 1 + 1) wrongE
  size : W.heap.size = w.heap.size + 1 + 1 + 1 + 1
theorem begin_ex (w : World) (a b : En) : ∃ W, Begin w W a b := by
  refine ⟨_, rfl, ((((Bl.refl _).alloc _).alloc _).alloc _).alloc _, (Box.new w a _).later ((((Bl.refl _).alloc _).alloc _).alloc _), ?_, ?_, ?_, by simp⟩
  · have := (Box.new (w.alloc (.cells #[.int .i64 a.v, .int .i64 a.l, .int .i64 a.h, .bool a.bad] 43)) b 43).later (((Bl.refl _).alloc (.cells #[.int .i64 0, .int .i64 0, .int .i64 0, .bool false] 43)).alloc (.cells #[.int .i64 0, .int .i64 0, .int .i64 0, .bool true] 43))
    simpa using this
  · have := (Box.new ((w.alloc (.cells #[.int .i64 a.v, .int .i64 a.l, .int .i64 a.h, .bool a.bad] 43)).alloc (.cells #[.int .i64 b.v, .int .i64 b.l, .int .i64 b.h, .bool b.bad] 43)) zeroE 43).later ((Bl.refl _).alloc (.cells #[.int .i64 0, .int .i64 0, .int .i64 0, .bool true] 43))
    simpa [zeroE] using this
  · have := Box.new (((w.alloc (.cells #[.int .i64 a.v, .int .i64 a.l, .int .i64 a.h, .bool a.bad] 43)).alloc (.cells #[.int .i64 b.v, .int .i64 b.l, .int .i64 b.h, .bool b.bad] 43)).alloc (.cells #[.int .i64 0, .int .i64 0, .int .i64 0, .bool false] 43)) wrongE 43
    simpa [wrongE] using this
theorem no_ways (k : Int) (a b : En) : (fineB a = false ∧ noB k a b = true) ∨ (fineB a = true ∧ fineB b = false ∧ noB k a b = true) ∨ (fineB a = true ∧ fineB b = true ∧ (k == 3) = false ∧ noB k a b = false) ∨
    (fineB a = true ∧ fineB b = true ∧ (k == 3) = true ∧ ¬ b.l ≤ 0 ∧ noB k a b = false) ∨ (fineB a = true ∧ fineB b = true ∧ (k == 3) = true ∧ b.l ≤ 0 ∧ noB k a b = decide (0 ≤ b.h)) := by
  unfold noB zeroB
  cases ha : fineB a
  · left; exact ⟨rfl, rfl⟩
  · right
    cases hb : fineB b
    · left; exact ⟨rfl, rfl, rfl⟩
    · right
      cases hk : (k == 3)
      · left
        exact ⟨rfl, rfl, rfl, rfl⟩
      · right
        by_cases hl : b.l ≤ 0
        · right; exact ⟨rfl, rfl, rfl, hl, by rw [decide_eq_true hl]; rfl⟩
        · left; exact ⟨rfl, rfl, rfl, hl, by rw [decide_eq_false hl]; rfl⟩
theorem pl2 (w : World) (L : Nat) (hL : L = w.heap.size + 1 + 1) (x0 y0 x1 y1 : Int) (t u : TypeId) :
    Pl (((w.alloc (.cells #[.int .i64 x0, .int .i64 y0] t)).alloc (.cells #[.int .i64 x1, .int .i64 y1] t)).alloc (.cells #[.slice (some ⟨w.heap.size, 0, none⟩) 2 2, .slice (some ⟨w.heap.size + 1, 0, none⟩) 2 2] u)) L [(x0, y0), (x1, y1)] := by
  subst hL
  refine ⟨by simp, fun i hi => ?_⟩
  rcases (by simp at hi; omega : i = 0 ∨ i = 1) with rfl | rfl
  · refine ⟨w.heap.size, by simp <;> omega, ?_, ?_, ?_⟩ <;> simp [go_sem, World.cell?_alloc_past]
  · refine ⟨w.heap.size + 1, by simp, ?_, ?_, ?_⟩ <;> simp [go_sem, World.cell?_alloc_past]
theorem pl4 (w : World) (L : Nat) (hL : L = w.heap.size + 1 + 1 + 1 + 1) (x0 y0 x1 y1 x2 y2 x3 y3 : Int) (t u : TypeId) :
    Pl (((((w.alloc (.cells #[.int .i64 x0, .int .i64 y0] t)).alloc (.cells #[.int .i64 x1, .int .i64 y1] t)).alloc (.cells #[.int .i64 x2, .int .i64 y2] t)).alloc (.cells #[.int .i64 x3, .int .i64 y3] t)).alloc
      (.cells #[.slice (some ⟨w.heap.size, 0, none⟩) 2 2, .slice (some ⟨w.heap.size + 1, 0, none⟩) 2 2, .slice (some ⟨w.heap.size + 1 + 1, 0, none⟩) 2 2, .slice (some ⟨w.heap.size + 1 + 1 + 1, 0, none⟩) 2 2] u)) L [(x0, y0), (x1, y1), (x2, y2), (x3, y3)] := by
  subst hL
  refine ⟨by simp, fun i hi => ?_⟩
  rcases (by simp at hi; omega : i = 0 ∨ i = 1 ∨ i = 2 ∨ i = 3) with rfl | rfl | rfl | rfl
  · refine ⟨w.heap.size, by simp <;> omega, ?_, ?_, ?_⟩ <;> simp [go_sem, World.cell?_alloc_past]
  · refine ⟨w.heap.size + 1, by simp <;> omega, ?_, ?_, ?_⟩ <;> simp [go_sem, World.cell?_alloc_past]
  · refine ⟨w.heap.size + 1 + 1, by simp <;> omega, ?_, ?_, ?_⟩ <;> simp [go_sem, World.cell?_alloc_past]
  · refine ⟨w.heap.size + 1 + 1 + 1, by simp, ?_, ?_, ?_⟩ <;> simp [go_sem, World.cell?_alloc_past]
end Go.Proofs.Ytfbioinmgchdcaa
