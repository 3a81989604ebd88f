/- HouseRow: one row of whole numbers folds to the root of its square, whose square is told and encloses it. Mathematics; and Whole of enclosed numbers as a call. -/
import Derived.Test.YtlbmkjicbkfmjaaGreatHuGN
import Derived.Test.YtlbmkjicbkfmjaaGreatHsW
import Derived.Test.YtlbmkjicbkfmjaaGreatMaH
namespace Go.Proofs.YtlbmkjicbkfmjaaGreat
open Go.RowKit
set_option linter.unusedSimpArgs false
set_option linter.unusedVariables false

theorem encl_enq8 {a : En} {n d : Int} (h : Enq a n d) (hn : Wh n) (hd : 1 ≤ d ∧ d ≤ 1073741824) (hb : a.bad = false) : enclB a n d = true := by
  rcases h with rfl | ⟨hf, h1, h2⟩
  · cases hb
  · have r1 : rightB n = true := by unfold rightB; simp; have := hn.1; have := hn.2; omega
    have r2 : rightB d = true := by unfold rightB; simp; omega
    unfold enclB withinB
    rw [hf, r1, r2]
    simp [h1, h2, hd.1]
theorem fm_small {x y m : Int} (hx : 0 ≤ x) (hx2 : x ≤ 5000000000) (hy : 0 ≤ y) (hy2 : y ≤ 5000000000) (hm : MD m) : fmB x y m = true := by
  have h0 : 0 ≤ x * y := Int.mul_nonneg hx hy
  have h1 : x * y ≤ 5000000000 * 5000000000 := Int.mul_le_mul hx2 hy2 hy (by omega)
  have a1 := rnd_mono 0 (x * y) 16777216 m (by decide) h0
  have a2 := rnd_mono (x * y) (5000000000 * 5000000000) 16777216 m (by decide) h1
  have z : rnd 0 16777216 m = 0 := by rcases hm with rfl | rfl | rfl <;> decide
  have t : rnd (5000000000 * 5000000000) 16777216 m ≤ 1490116119385 := by rcases hm with rfl | rfl | rfl <;> decide
  exact (fm_told (frB_eq ⟨by omega, by omega⟩) (frB_eq ⟨by omega, by omega⟩) hm (frB_eq ⟨by omega, by omega⟩)).1
theorem mul_small {v l h : Int} (h0 : 0 ≤ l) (h1 : l ≤ v) (h2 : v ≤ h) (h3 : h ≤ 5000000000) : (mulE ⟨v, l, h, false⟩ ⟨v, l, h, false⟩).bad = false := by
  have fa : fineB ⟨v, l, h, false⟩ = true := fineB_iff.2 ⟨rfl, h1, h2, show frB l = true from frB_eq ⟨by omega, by omega⟩, show frB h = true from frB_eq ⟨by omega, by omega⟩⟩
  have m0 : MD 0 := .inl rfl
  have m1 : MD 1 := .inr (.inl rfl)
  have m2 : MD 2 := .inr (.inr rfl)
  have ok : okE fmB ⟨v, l, h, false⟩ ⟨v, l, h, false⟩ (prs4 ⟨v, l, h, false⟩ ⟨v, l, h, false⟩) = true := okE_iff.2 ⟨show fmB v v 0 = true from fm_small (by omega) (by omega) (by omega) (by omega) m0, fa, fa, by
    unfold okF prs4
    simp only [List.all_cons, List.all_nil, Bool.and_true]
    rw [fm_small h0 (by omega) h0 (by omega) m1, fm_small h0 (by omega) h0 (by omega) m2, fm_small h0 (by omega) (show 0 ≤ h by omega) h3 m1, fm_small h0 (by omega) (show 0 ≤ h by omega) h3 m2, fm_small (show 0 ≤ h by omega) h3 h0 (by omega) m1, fm_small (show 0 ≤ h by omega) h3 h0 (by omega) m2, fm_small (show 0 ≤ h by omega) h3 (show 0 ≤ h by omega) h3 m1, fm_small (show 0 ≤ h by omega) h3 (show 0 ≤ h by omega) h3 m2]
    rfl⟩
  unfold mulE
  rw [told_ok ok]
theorem sq_sum : ∀ (xs : List Int), Sml 100 xs → 0 ≤ dotI xs xs ∧ dotI xs xs ≤ 10000 * xs.length
  | [], _ => ⟨by decide, by decide⟩
  | x :: xs, h => by
    have ih := sq_sum xs h.tail
    have hb := mul_bound h.head h.head
    have h0 : 0 ≤ x * x := by
      rcases Int.le_total 0 x with hx | hx
      · exact Int.mul_nonneg hx hx
      · exact Int.mul_nonneg_of_nonpos_of_nonpos hx hx
    have e : dotI (x :: xs) (x :: xs) = x * x + dotI xs xs := by unfold dotI; rw [List.zipWith_cons_cons, List.sum_cons]
    rw [e, List.length_cons]
    constructor
    · omega
    · have : ((xs.length + 1 : Nat) : Int) = (xs.length : Int) + 1 := by omega
      rw [this]
      omega
theorem dotI_snoc8 : ∀ (xs : List Int) (x : Int), dotI (xs ++ [x]) (xs ++ [x]) = dotI xs xs + x * x
  | [], x => by show x * x + 0 = 0 + x * x; omega
  | y :: ys, x => by
    have ih := dotI_snoc8 ys x
    have e : ∀ (a : Int) (l : List Int), dotI (a :: l) (a :: l) = a * a + dotI l l := fun a l => by unfold dotI; rw [List.zipWith_cons_cons, List.sum_cons]
    rw [List.cons_append, e, e, ih]
    omega
/-- What one row folds to. -/
theorem row8 {m : Nat} {f : Nat → Nat → En} {xs : List Int} (ht : tailH m 0 (f 0) = xs.map itN) (hs : Sml 100 xs) (hl : xs.length ≤ 8) :
    ∃ x, foldN 1 m f 0 0 = x ∧ x.bad = false ∧ lowN x = false ∧ enclB (mulE x x) (dotI xs xs) 1 = true := by
  obtain ⟨D, hD⟩ : ∃ D, D = dotI xs xs := ⟨_, rfl⟩
  obtain ⟨d0, d1⟩ := sq_sum xs hs
  rw [← hD] at d0 d1 ⊢
  have d2 : D ≤ 80000 := by omega
  have hdot : dotN (tailH m 0 (f 0)) (tailH m 0 (f 0)) = itN D := by
    rw [ht, dotN_it (fun x hx => by have := hs x hx; omega) (fun x hx => by have := hs x hx; omega) (by omega), hD]
  obtain ⟨p, hp⟩ : ∃ p, p = (if lowN (f 0 0) = true then rootE (itN D) else negE (rootE (itN D))) := ⟨_, rfl⟩
  have hp1 : foldL kdN lowN m f 1 0 0 = p := by
    show foldStep kdN m 0 (lowN (f 0 0)) f 0 0 = _
    unfold foldStep
    rw [if_pos rfl, if_pos rfl, hp]
    unfold pH
    show (if lowN (f 0 0) = true then rootE (dotN (tailH m 0 (f 0)) (tailH m 0 (f 0))) else negE (rootE (dotN (tailH m 0 (f 0)) (tailH m 0 (f 0))))) = _
    rw [hdot]
  have hS : foldN 1 m f 0 0 = if lowN p = true then negE p else p := by
    unfold foldN signsH
    by_cases hlo : lowN p = true
    · rw [if_pos ⟨Nat.le_refl _, by show lowN (foldL kdN lowN m f 1 0 0) = true; rw [hp1]; exact hlo⟩, if_pos hlo, hp1]
      rfl
    · rw [if_neg (fun h => hlo (by have h2 : lowN (foldL kdN lowN m f 1 0 0) = true := h.2; rw [hp1] at h2; exact h2)), if_neg hlo, hp1]
  by_cases hz : 1 ≤ D
  · obtain ⟨v, l, h, e1, a1, a2, a3, a4, e2⟩ := row_signs hz d2 (lowN (f 0 0))
    rw [← hp] at e2
    rw [e2] at hS
    refine ⟨_, hS, by rw [e1], ?_, encl_enq8 (row_square hz d2 (by rw [e1]; exact mul_small (by omega) a2 a3 a4)) ⟨by omega, by omega⟩ ⟨by omega, by omega⟩ (by rw [e1]; exact mul_small (by omega) a2 a3 a4)⟩
    rw [e1]
    unfold lowN
    refine decide_eq_false ?_
    show ¬ cmpI v 0 < 0
    unfold cmpI
    split <;> omega
  · have : D = 0 := by omega
    subst this
    have r0 : rootE (itN 0) = itN 0 := rootN_it (s := 0) (by omega) (by omega)
    have n0 : negE (itN 0) = itN 0 := negN_it ⟨by omega, by omega⟩
    have hp0 : p = itN 0 := by rw [hp, r0, n0]; split <;> rfl
    have l0 : lowN (itN 0) = false := by rw [lowN_it]; rfl
    rw [hp0, l0, if_neg nofun] at hS
    refine ⟨_, hS, rfl, l0, ?_⟩
    rw [mulN_it ⟨by omega, by omega⟩ ⟨by omega, by omega⟩ ⟨by omega, by omega⟩]
    exact encl_it ⟨by omega, by omega⟩
theorem whole8N_call (R C : Nat) (p : Option Addr) (n cap : Nat) (ns : List Int) (w : World) (hr : Rq 1 cI w (.slice p n cap) ns) (hd : Dim R C) (hn : n = R * C) (hl : ns.length = n) :
    Calls Tryz.prog 21 #[.int .i64 R, .int .i64 C, .slice p n cap] w fun e w' => ∃ p' cap', e = .returned (.tuple #[mV R C p' n cap', .bool true]) ∧ Mx 4 cellsN w' R C p' n cap' (fun i k => wholeN (ofL C ns i k)) ∧ Bl w w' := by
  refine (mWholeN R C p n cap ns w hr (fitB_dim hd hn) hl).mono ?_
  rintro e w' ⟨p', cap', rfl, hR, hb⟩
  refine ⟨p', cap', rfl, ⟨hd, hn, ?_⟩, hb⟩
  have e := ofL_mk (R := R) (M := C) (ns := ns) (by rw [hl, hn])
  rw [e, mk_map] at hR
  exact hR.q
end Go.Proofs.YtlbmkjicbkfmjaaGreat
