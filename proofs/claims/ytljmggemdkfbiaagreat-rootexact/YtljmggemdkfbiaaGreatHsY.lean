/- HouseTwice: an enclosed triangle of whole numbers with a diagonal above 0 folds to what encloses it. Mathematics alone. -/
import Derived.Test.YtljmggemdkfbiaaGreatHsV
import Derived.Test.YtljmggemdkfbiaaGreatHsT
import Derived.Test.YtljmggemdkfbiaaGreatVeL
namespace Go.Proofs.YtljmggemdkfbiaaGreat
open Go.RowKit
set_option linter.unusedSimpArgs false
set_option linter.unusedVariables false

theorem subN_it {a b : Int} (ha : Wn a) (hb : Wn b) (h : Wn (a - b)) : subE (itN a) (itN b) = itN (a - b) := by
  have e : a * 16777216 - b * 16777216 = (a - b) * 16777216 := by omega
  have t := fs_told (fr_it ha) (fr_it hb) (by rw [e]; exact fr_it h)
  have hs : Same (prsX (itN a) (itN b)) (a * 16777216) (b * 16777216) := same_prsX _ _
  have ok : okE bS (itN a) (itN b) (prsX (itN a) (itN b)) = true := okE_iff.2 ⟨t.1, fineN_it ha, fineN_it hb, by rw [hs.ok]; unfold bS; rw [t.1]; rfl⟩
  have e1 := told_ok (N := nS) ok
  unfold subE
  rw [e1, hs.low bdS, hs.high bdS]
  have hn : ∀ m, nS (a * 16777216) (b * 16777216) m = (a - b) * 16777216 := fun m => by show fsN _ _ = _; rw [t.2, e]
  show (⟨nS (a * 16777216) (b * 16777216) 0, _, _, false⟩ : En) = _
  rw [hn, hn, hn]
  rfl
theorem negN_it {a : Int} (ha : Wn a) : negE (itN a) = itN (-a) := by
  have h := subN_it (a := 0) (b := a) ⟨by omega, by omega⟩ ha (by obtain ⟨h1, h2⟩ := ha; exact ⟨by omega, by omega⟩)
  rw [Int.zero_sub] at h
  exact h
theorem fm_zero (y m : Int) : fmN 0 y m = 0 := by
  unfold fmN
  cases hb : fmB 0 y m
  · rfl
  · have hm : mdB 0 y 16777216 m = true := by unfold fmB at hb; simp only [Bool.and_eq_true] at hb; exact hb.1.1
    rw [toN_t, md_round _ _ _ _ (by decide) hm, Int.zero_mul]
    have := rnd_it 0 16777216 m (by decide)
    rwa [Int.zero_mul] at this
/-- 0 times anything. -/
theorem mulN_zero (t : En) : mulE (itN 0) t = itN 0 ∨ mulE (itN 0) t = wrongE := by
  cases hk : okE fmB (itN 0) t (prs4 (itN 0) t)
  · exact .inr (told_bad hk)
  · refine .inl ?_
    unfold mulE
    rw [told_ok hk]
    have e : prs4 (itN 0) t = [(0, t.l), (0, t.h), (0, t.l), (0, t.h)] := rfl
    rw [e]
    show (⟨fmN 0 t.v 0, _, _, false⟩ : En) = _
    unfold lowF highF
    simp only [List.foldl_cons, List.foldl_nil, fm_zero]
    rfl
theorem rootN_it {s : Int} (h0 : 0 ≤ s) (h1 : s ≤ 8000) : rootE (itN (s * s)) = itN s := by
  have hb : s * s ≤ 64000000 := by have := Int.mul_le_mul h1 h1 h0 (by omega : (0 : Int) ≤ 8000); omega
  have hb0 : 0 ≤ s * s := Int.mul_nonneg h0 h0
  have hw : Wn (s * s) := ⟨by omega, by omega⟩
  obtain ⟨r, t, _, r0, _, t0, _, ea, ht, x1, x2, x0⟩ := fq_vals (s * s * 16777216) (fr_it hw) (by omega)
  have e1 : s * s * 16777216 * 16777216 = s * 16777216 * (s * 16777216) := by ac_rfl
  rw [e1] at ea
  obtain ⟨u, hu⟩ : ∃ u, u = s * 16777216 := ⟨_, rfl⟩
  rw [← hu] at ea
  have u0 : 0 ≤ u := by omega
  have hru : r = u := by
    have g1 : r ≤ u := sq_le r0 u0 (by omega)
    have g2 : u < r + 1 := by
      refine Int.not_le.1 fun hh => ?_
      have := Int.mul_le_mul hh hh (by omega) u0
      have e2 : (r + 1) * (r + 1) = r * r + 2 * r + 1 := by rw [Int.add_mul, Int.mul_add]; omega
      omega
    omega
  have ht0 : t = 0 := by rw [hru] at ea; omega
  rw [ht0, hru] at x0 x2
  rw [hru] at x1
  have up : upI u (decide ((0 : Int) < 0)) = u := by unfold upI; simp
  have up2 : upI u (decide (u < 0)) = u := by unfold upI; simp; omega
  rw [up] at x2
  rw [up2] at x0
  have hs : Same (prs2 (itN (s * s)) (itN (s * s))) (s * s * 16777216) (s * s * 16777216) := same_prs2 _ _
  have ok : okE bQ (itN (s * s)) (itN (s * s)) (prs2 (itN (s * s)) (itN (s * s))) = true := okE_iff.2 ⟨x0.2, fineN_it hw, fineN_it hw, by rw [hs.ok]; unfold bQ; rw [x1.2, x2.2]; rfl⟩
  unfold rootE
  rw [told_ok (N := nQ) ok, hs.low bdQ, hs.high bdQ]
  show (⟨fqN (s * s * 16777216) 0, fqN (s * s * 16777216) 1, fqN (s * s * 16777216) 2, false⟩ : En) = _
  rw [x0.1, x1.1, x2.1, hu]
  rfl
/-- Bad, or just so. -/
def OrW (e : En) (n : Int) : Prop := e = itN n ∨ e = wrongE
theorem orW_add {a b : En} {m n : Int} (ha : OrW a m) (hb : OrW b n) (h1 : Wn m) (h2 : Wn n) (h3 : Wn (m + n)) : OrW (addE a b) (m + n) := by
  rcases ha with rfl | rfl
  · rcases hb with rfl | rfl
    · exact .inl (addN_it h1 h2 h3)
    · exact .inr (told_wrong (.inr rfl))
  · exact .inr (told_wrong (.inl rfl))
theorem orW_mul {a b : En} {m n : Int} (ha : OrW a m) (hb : OrW b n) (h1 : Wn m) (h2 : Wn n) (h3 : Wn (m * n)) : OrW (mulE a b) (m * n) := by
  rcases ha with rfl | rfl
  · rcases hb with rfl | rfl
    · exact .inl (mulN_it h1 h2 h3)
    · exact .inr (told_wrong (.inr rfl))
  · exact .inr (told_wrong (.inl rfl))
/-- A sum that has numbers of 0 behind its first one. -/
theorem orW_fold : ∀ (es : List En) (a : En) (n : Int), Wn n → OrW a n → (∀ e ∈ es, OrW e 0) → OrW (es.foldl addE a) n
  | [], a, n, _, h, _ => h
  | e :: es, a, n, hn, h, hz => by
    have := orW_add h (hz e (by simp)) hn ⟨by omega, by omega⟩ (by rw [Int.add_zero]; exact hn)
    rw [Int.add_zero] at this
    exact orW_fold es (addE a e) n hn this fun x hx => hz x (by simp [hx])
theorem zeroW : wholeN 0 = itN 0 := rfl
/-- Whether a number is below 0. -/
def lowN (e : En) : Bool := decide (signE e < 0)
theorem lowN_it {n : Int} : lowN (itN n) = decide (n < 0) := by
  unfold lowN
  show decide (cmpI (n * 16777216) 0 < 0) = decide (n < 0)
  unfold cmpI
  congr 1
  refine propext ?_
  split
  · constructor
    · intro _; omega
    · intro _; omega
  · split
    · constructor
      · intro h; omega
      · intro h; omega
    · constructor
      · intro h; omega
      · intro h; omega
theorem lowN_wrong : lowN wrongE = false := rfl
theorem wrong_mul (a : En) : mulE a wrongE = wrongE := told_wrong (.inr rfl)
theorem wrong_sub (a : En) : subE a wrongE = wrongE := told_wrong (.inr rfl)
theorem wrong_sub' (a : En) : subE wrongE a = wrongE := told_wrong (.inl rfl)
theorem wrong_div (a : En) : divE a wrongE = wrongE := by
  unfold divE
  split
  · rfl
  · exact told_wrong (.inr rfl)
theorem wrong_fold : ∀ (es : List En), es.foldl addE wrongE = wrongE
  | [] => rfl
  | e :: es => by show es.foldl addE (addE wrongE e) = _; rw [show addE wrongE e = wrongE from told_wrong (.inl rfl)]; exact wrong_fold es
/-- A dot whose first product is Bad. -/
theorem dot_wrong (us vs : List En) : dotN (wrongE :: us) (wrongE :: vs) = wrongE := by
  show (List.zipWith mulE us vs).foldl addE (addE (wholeN 0) (mulE wrongE wrongE)) = _
  rw [wrong_mul, show addE (wholeN 0) wrongE = wrongE from told_wrong (.inr rfl), wrong_fold]
/-- The triangle behind k steps: its rows that are still to come. -/
def TriN (n k : Nat) (s : Nat → Nat → Int) (A : Nat → Nat → En) : Prop := ∀ i j, k ≤ i → i < n → k ≤ j → j < n → OrW (A i j) (s i j)
theorem tail_cons {m k : Nat} (f : Nat → En) (h : k < m) : ∃ rest : List En, tailH m k f = f k :: rest ∧ ∀ e ∈ rest, ∃ c, k < c ∧ c < m ∧ e = f c := by
  obtain ⟨d, hd⟩ : ∃ d, m - k = d + 1 := ⟨m - k - 1, by omega⟩
  refine ⟨(List.range d).map fun j => f (k + (j + 1)), ?_, fun e he => ?_⟩
  · unfold tailH
    rw [hd, List.range_succ_eq_map, List.map_cons, List.map_map]
    rfl
  · obtain ⟨j, hj, rfl⟩ := List.mem_map.1 he
    have := List.mem_range.1 hj
    exact ⟨k + (j + 1), by omega, by omega, rfl⟩
theorem zip_zero : ∀ (us vs : List En), (∀ e ∈ us, OrW e 0) → (∀ e ∈ vs, OrW e 0) → ∀ e ∈ List.zipWith mulE us vs, OrW e 0
  | [], _, _, _, e, h => by simp at h
  | _ :: _, [], _, _, e, h => by simp at h
  | u :: us, v :: vs, h1, h2, e, h => by
    simp only [List.zipWith_cons_cons, List.mem_cons] at h
    rcases h with rfl | h
    · have := orW_mul (h1 u (by simp)) (h2 v (by simp)) ⟨by omega, by omega⟩ ⟨by omega, by omega⟩ (by rw [Int.mul_zero]; exact ⟨by omega, by omega⟩)
      rwa [Int.mul_zero] at this
    · exact zip_zero us vs (fun x hx => h1 x (by simp [hx])) (fun x hx => h2 x (by simp [hx])) e h
/-- What stands on the diagonal then. -/
theorem tri_p {n k : Nat} {s : Nat → Nat → Int} (hn : n ≤ 16) (hs : Sm2 100 n n s) (hl : Low 0 s) (hd : ∀ k, k < n → 0 < s k k) {A : Nat → Nat → En} (hA : TriN n k s A) (hk : k < n) : OrW (pH kdN n k false A) (-(s k k)) := by
  have hkk := hs k k hk hk
  have b := mul_bound (A := 100) (B := 100) hkk hkk
  obtain ⟨rest, e, hr⟩ := tail_cons (A k) hk
  have hz : ∀ x ∈ rest, OrW x 0 := fun x hx => by
    obtain ⟨c, h1, h2, rfl⟩ := hr x hx
    have := hA k c (Nat.le_refl _) hk (by omega) h2
    rwa [hl k c h1] at this
  have hdot : OrW (dotN (tailH n k (A k)) (tailH n k (A k))) (s k k * s k k) := by
    rw [e]
    show OrW ((List.zipWith mulE rest rest).foldl addE (addE (wholeN 0) (mulE (A k k) (A k k)))) _
    have h0 := hA k k (Nat.le_refl _) hk (Nat.le_refl _) hk
    have h1 := orW_mul h0 h0 ⟨by omega, by omega⟩ ⟨by omega, by omega⟩ ⟨by omega, by omega⟩
    have h2 := orW_add (a := wholeN 0) (m := 0) (.inl zeroW) h1 ⟨by omega, by omega⟩ ⟨by omega, by omega⟩ (by rw [Int.zero_add]; exact ⟨by omega, by omega⟩)
    rw [Int.zero_add] at h2
    exact orW_fold _ _ _ ⟨by omega, by omega⟩ h2 (zip_zero _ _ hz hz)
  unfold pH
  rw [if_neg (by decide)]
  show OrW (negE (rootE (dotN (tailH n k (A k)) (tailH n k (A k))))) _
  have := hd k hk
  rcases hdot with h | h
  · rw [h, rootN_it (by omega) (by omega), negN_it ⟨by omega, by omega⟩]
    exact .inl rfl
  · rw [h, show rootE wrongE = wrongE from told_wrong (.inl rfl)]
    exact .inr (wrong_sub _)
theorem tri_next {n k : Nat} {s : Nat → Nat → Int} (hs : Sm2 100 n n s) (hl : Low 0 s) {A : Nat → Nat → En} (hA : TriN n k s A) (hk : k < n) : TriN n (k + 1) s (foldStep kdN n k false A) := fun i j hi hin hj hjn => by
  have h0 := hA i j (by omega) hin (by omega) hjn
  have hij := hs i j hin hjn
  unfold foldStep
  rw [if_neg (by omega), if_pos (by omega)]
  have hv : OrW (vH kdN n k false A j) 0 := by
    unfold vH
    rw [if_neg (by omega)]
    have := hA k j (Nat.le_refl _) hk (by omega) hjn
    rwa [hl k j (by omega)] at this
  show OrW (subE (A i j) (mulE (vH kdN n k false A j) (tH kdN n k false A i))) (s i j)
  have hm : OrW (mulE (vH kdN n k false A j) (tH kdN n k false A i)) 0 := by
    rcases hv with h | h
    · rw [h]; exact mulN_zero _
    · rw [h]; exact .inr (told_wrong (.inl rfl))
  rcases h0 with h | h
  · rcases hm with g | g
    · rw [h, g, subN_it ⟨by omega, by omega⟩ ⟨by omega, by omega⟩ (by rw [Int.sub_zero]; exact ⟨by omega, by omega⟩), Int.sub_zero]
      exact .inl rfl
    · rw [g]; exact .inr (wrong_sub _)
  · rw [h]; exact .inr (wrong_sub' _)
end Go.Proofs.YtljmggemdkfbiaaGreat
