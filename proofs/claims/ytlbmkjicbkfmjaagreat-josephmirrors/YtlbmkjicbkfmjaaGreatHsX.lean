/- HouseSquares: where a fold's triangle is fine, its square encloses the square of the whole numbers that were folded. Mathematics alone. -/
import Derived.Test.YtlbmkjicbkfmjaaGreatHsV
namespace Go.Proofs.YtlbmkjicbkfmjaaGreat
open Go.RowKit
set_option linter.unusedSimpArgs false
set_option linter.unusedVariables false

def epsH : Rat := 1 / 1125899906842624
def delH : Rat := 1 / 33554432
/-- What is near. -/
def NearH (q r : Rat) : Prop := q - r ≤ delH ∧ r - q ≤ delH
theorem near_self (q : Rat) : NearH q q := by unfold NearH delH; constructor <;> grind
/-- A number that is fine is at most so great. -/
theorem encQ_size {e : En} {q : Rat} (h : EncQ e q) (hb : e.bad = false) : -67108864 ≤ q ∧ q ≤ 67108864 := by
  rcases encQ_iff.1 h with rfl | ⟨hf, h1, h2⟩
  · cases hb
  · obtain ⟨_, _, _, f1, f2⟩ := fineB_iff.1 hf
    have g1 := Rat.intCast_le_intCast.2 (frB_iff.1 f1).1
    have g2 := Rat.intCast_le_intCast.2 (frB_iff.1 f2).2
    have c1 : ((-1125899906842624 : Int) : Rat) = -1125899906842624 := rfl
    have c2 : ((1125899906842624 : Int) : Rat) = 1125899906842624 := rfl
    rw [c1] at g1
    rw [c2] at g2
    constructor <;> grind
/-- The rational numbers behind k steps. -/
def RunH (n m : Nat) (A : Nat → Nat → En) (k : Nat) (G : Nat → Nat → Rat) (B : Nat → Nat → Rat) : Prop :=
  (∀ i j, i < n → j < m → EncQ (A i j) (B i j)) ∧ (∀ i c, i < k → i < c → c < m → B i c = 0) ∧
    ∀ i j, i ≤ j → j < n → (k ≤ i → sumH m (fun c => B i c * B j c) = G i j) ∧ NearH (sumH m fun c => B i c * B j c) (G i j)
theorem run_step {n m k : Nat} (hkn : k < n) (hnm : n ≤ m) {b : Bool} {A : Nat → Nat → En} {G B : Nat → Nat → Rat} (hr : RunH n m A k G B) (hp : (pH kdN m k b A).bad = false) (ht : ∀ i, k < i → i < n → (tH kdN m k b A i).bad = false) :
    ∃ B', RunH n m (foldStep kdN m k b A) (k + 1) G B' := by
  obtain ⟨h1, h2, h3⟩ := hr
  have hD := encR_dT (m := m) (k := k) (f := A k) (g := B k) (fun c _ hc => h1 k c hkn hc) (fun c _ hc => h1 k c hkn hc)
  -- the root
  have hrb : (rootE (dotN (tailH m k (A k)) (tailH m k (A k)))).bad = false := by
    unfold pH at hp
    by_cases hb : b = true
    · rw [if_pos hb] at hp; exact hp
    · rw [if_neg hb] at hp
      exact fine_nb (told_fine (show (subE (ptE 0 true) (rootE (dotN (tailH m k (A k)) (tailH m k (A k))))).bad = false from hp)).2
  obtain ⟨z, z0, z1, z2, z3⟩ := encQ_root (e := epsH) hD hrb (by unfold epsH; grind)
  obtain ⟨p, hpe, hpp⟩ : ∃ p, EncQ (pH kdN m k b A) p ∧ p * p = z * z := by
    unfold pH
    by_cases hb : b = true
    · rw [if_pos hb]; exact ⟨z, z1, rfl⟩
    · rw [if_neg hb]; exact ⟨-z, encQ_neg z1, by grind⟩
  obtain ⟨e1, e2⟩ := encQ_step hkn hnm h1 hpe
  obtain ⟨h, hh⟩ : ∃ h, h = z * z - dT m k (B k) (B k) := ⟨_, rfl⟩
  have hph : p * p = dT m k (B k) (B k) + h := by grind
  have b1 : h ≤ 0 := by grind
  have b2 : -epsH ≤ h := by grind
  refine ⟨qStep m k p B, e1, fun i c hi hc hm => ?_, fun i j hij hj => ?_⟩
  · unfold qStep
    by_cases hik : i = k
    · rw [if_pos hik, if_neg (by omega), if_pos (by omega)]
    · rw [if_neg hik, if_neg (by omega)]
      exact h2 i c (by omega) hc hm
  · have g := gram_step (show k < m by omega) hph h2 hij (fun hkj => (e2 j hj (ht j hkj hj)).2)
    obtain ⟨g1, g2⟩ := h3 i j hij hj
    rw [g]
    by_cases hik : i = k
    · rw [if_pos hik]
      refine ⟨fun h => by omega, ?_⟩
      rw [g1 (by omega)]
      unfold NearH
      by_cases hjk : j = k
      · rw [if_pos hjk]
        unfold delH
        unfold epsH at b2
        constructor <;> grind
      · rw [if_neg hjk]
        obtain ⟨t1, t2⟩ := encQ_size (e2 j hj (ht j (by omega) hj)).1 (ht j (by omega) hj)
        obtain ⟨t, htt⟩ : ∃ t, t = qT m k p B j := ⟨_, rfl⟩
        rw [← htt] at t1 t2 ⊢
        -- the product of both
        have m1 : h * t ≤ epsH * 67108864 := by
          have := Rat.mul_le_mul_of_nonneg_right (show -t ≤ 67108864 by grind) (show 0 ≤ -h by grind)
          have := Rat.mul_le_mul_of_nonneg_right (show -h ≤ epsH by grind) (show (0 : Rat) ≤ 67108864 by grind)
          grind
        have m2 : -(epsH * 67108864) ≤ h * t := by
          have := Rat.mul_le_mul_of_nonneg_right t2 (show 0 ≤ -h by grind)
          have := Rat.mul_le_mul_of_nonneg_right (show -h ≤ epsH by grind) (show (0 : Rat) ≤ 67108864 by grind)
          grind
        unfold delH
        unfold epsH at m1 m2
        constructor <;> grind
    · rw [if_neg hik, Rat.add_zero]
      exact ⟨fun h => g1 (by omega), g2⟩
theorem run_all {n m : Nat} (hnm : n ≤ m) (σ : Nat → Bool) (a : Nat → Nat → En) (g : Nat → Nat → Rat) (ha : ∀ i j, i < n → j < m → EncQ (a i j) (g i j))
    (hp : ∀ k, k < n → (pH kdN m k (σ k) (foldTo kdN m σ a k)).bad = false) (ht : ∀ k i, k < i → i < n → (tH kdN m k (σ k) (foldTo kdN m σ a k) i).bad = false) :
    ∀ k, k ≤ n → ∃ B, RunH n m (foldTo kdN m σ a k) k (fun i j => sumH m fun c => g i c * g j c) B
  | 0, _ => ⟨g, ha, fun i c h => by omega, fun i j _ _ => ⟨fun _ => rfl, near_self _⟩⟩
  | k + 1, hk => by
    obtain ⟨B, hB⟩ := run_all hnm σ a g ha hp ht k (by omega)
    exact run_step (by omega) hnm hB (hp k (by omega)) (fun i h1 h2 => ht k i h1 h2)
/-- What a row's dot of the triangle encloses. -/
theorem fold_sq {n m : Nat} (hnm : n ≤ m) (σ τ : Nat → Bool) (a : Nat → Nat → En) (g : Nat → Nat → Rat) (ha : ∀ i j, i < n → j < m → EncQ (a i j) (g i j))
    (hT : ∀ i j, i < n → j ≤ i → (foldH kdN n m σ τ a i j).bad = false) {i j : Nat} (hij : i ≤ j) (hj : j < n) :
    ∃ q, EncQ (dotN (rowM n (foldH kdN n m σ τ a) i) (rowM n (foldH kdN n m σ τ a) j)) q ∧ EncQ (dotN (rowM n (foldH kdN n m σ τ a) j) (rowM n (foldH kdN n m σ τ a) i)) q ∧ NearH q (sumH m fun c => g i c * g j c) := by
  have an : ∀ i c, i < n → c ≤ i → (foldTo kdN m σ a n i c).bad = false := fun i c hi hc => by
    have h := hT i c hi hc
    unfold foldH signsH at h
    rw [if_neg (by omega)] at h
    by_cases hl : c ≤ i ∧ τ c = true
    · rw [if_pos hl] at h
      exact fine_nb (told_fine (show (subE (ptE 0 true) (foldTo kdN m σ a n i c)).bad = false from h)).2
    · rw [if_neg hl] at h
      exact h
  have hp : ∀ k, k < n → (pH kdN m k (σ k) (foldTo kdN m σ a k)).bad = false := fun k hk => by
    obtain ⟨d, rfl⟩ := Nat.exists_eq_add_of_le (show k + 1 ≤ n from hk)
    have := an k k (by omega) (Nat.le_refl _)
    rw [foldTo_stays kdN m σ a (.inl (by omega)) d] at this
    have e : foldTo kdN m σ a (k + 1) k k = pH kdN m k (σ k) (foldTo kdN m σ a k) := by
      show foldStep kdN m k (σ k) (foldTo kdN m σ a k) k k = _
      unfold foldStep
      rw [if_pos rfl, if_pos rfl]
    rwa [e] at this
  have ht : ∀ k i, k < i → i < n → (tH kdN m k (σ k) (foldTo kdN m σ a k) i).bad = false := fun k i hk hi => by
    obtain ⟨d, hd⟩ := Nat.exists_eq_add_of_le (show k + 1 ≤ n by omega)
    have := an i k hi (by omega)
    rw [hd, foldTo_stays kdN m σ a (.inr ⟨by omega, hk⟩) d] at this
    have e : foldTo kdN m σ a (k + 1) i k = subE (foldTo kdN m σ a k i k) (mulE (vH kdN m k (σ k) (foldTo kdN m σ a k) k) (tH kdN m k (σ k) (foldTo kdN m σ a k) i)) := by
      show foldStep kdN m k (σ k) (foldTo kdN m σ a k) i k = _
      unfold foldStep
      rw [if_neg (by omega), if_pos ⟨hk, Nat.le_refl _⟩]
      rfl
    rw [e] at this
    exact fine_nb (told_fine (fine_nb (told_fine this).2)).2
  obtain ⟨B, h1, h2, h3⟩ := run_all hnm σ a g ha hp ht n (Nat.le_refl _)
  obtain ⟨T, hTT⟩ : ∃ T : Nat → Nat → Rat, T = fun i c => if i < c then 0 else if c ≤ i ∧ τ c = true then -(B i c) else B i c := ⟨_, rfl⟩
  have eT : ∀ i c, i < n → c < n → EncQ (foldH kdN n m σ τ a i c) (T i c) := fun i c hi hc => by
    rw [hTT]
    show EncQ _ (if i < c then 0 else if c ≤ i ∧ τ c = true then -(B i c) else B i c)
    unfold foldH signsH
    by_cases h4 : i < c
    · rw [if_pos h4, if_pos h4]; exact encQ_whole 0
    · rw [if_neg h4, if_neg h4]
      by_cases h5 : c ≤ i ∧ τ c = true
      · rw [if_pos h5, if_pos h5]; exact encQ_neg (h1 i c hi (by omega))
      · rw [if_neg h5, if_neg h5]; exact h1 i c hi (by omega)
  have rows : ∀ i, i < n → EncR (rowM n (foldH kdN n m σ τ a) i) ((List.range n).map fun c => T i c) := fun i hi => by
    refine ⟨by rw [rowM_len]; simp, fun c e q h4 h5 => ?_⟩
    have hc : c < n := by have := (List.getElem?_eq_some_iff.1 h4).1; rwa [rowM_len] at this
    rw [rowM_get _ _ hc] at h4
    rw [List.getElem?_map, List.getElem?_range hc] at h5
    cases h4
    cases h5
    exact eT i c hi hc
  have hi : i < n := by omega
  have eq : sumH n (fun c => T i c * T j c) = sumH m fun c => B i c * B j c := by
    obtain ⟨d, hd⟩ := Nat.exists_eq_add_of_le hnm
    rw [hd, sumH_split, sumH_zero d (fun c hc => by rw [h2 i (n + c) hi (by omega) (by omega), Rat.zero_mul]), Rat.add_zero]
    refine sumH_congr n fun c hc => ?_
    rw [hTT]
    show (if i < c then 0 else if c ≤ i ∧ τ c = true then -(B i c) else B i c) * (if j < c then 0 else if c ≤ j ∧ τ c = true then -(B j c) else B j c) = B i c * B j c
    by_cases h4 : i < c
    · rw [if_pos h4, h2 i c hi h4 (by omega), Rat.zero_mul, Rat.zero_mul]
    · rw [if_neg h4, if_neg (by omega : ¬ j < c)]
      by_cases h5 : τ c = true
      · rw [if_pos ⟨by omega, h5⟩, if_pos ⟨by omega, h5⟩]; grind
      · rw [if_neg (fun h => h5 h.2), if_neg (fun h => h5 h.2)]
  refine ⟨sumH n fun c => T i c * T j c, ?_, ?_, ?_⟩
  · have := encR_dot (rows i hi) (rows j hj)
    rwa [dotQ_sumH] at this
  · have := encR_dot (rows j hj) (rows i hi)
    rw [dotQ_sumH, sumH_congr n (g := fun c => T i c * T j c) fun c _ => Rat.mul_comm _ _] at this
    exact this
  · rw [eq]
    exact (h3 i j hij hj).2
/-- Of whole numbers. -/
theorem fold_sq_int {e : En} {q : Rat} {n : Int} (h : EncQ e q) (hb : e.bad = false) (hn : NearH q (n : Rat)) : Enq e n 1 := by
  obtain ⟨h1, h2⟩ := hn
  unfold delH at h1 h2
  exact encQ_int h hb (by grind) (by grind)
end Go.Proofs.YtlbmkjicbkfmjaaGreat
