/- A fold of enclosed numbers whose triangle is fine: the triangle's square encloses the square of what was folded, though roots are no fractions (layer 8, HouseSquares). Mathematics alone. -/
import Derived.Test.YtljmggemdkfbiaaGreatHsS
namespace Go.Proofs.YtljmggemdkfbiaaGreat
open Go.RowKit
set_option linter.unusedSimpArgs false
set_option linter.unusedVariables false

theorem told_fine {N : Int → Int → Int → Int} {B : Int → Int → Int → Bool} {a b : En} {ps : List (Int × Int)} (h : (toldE N B a b ps).bad = false) : fineB a = true ∧ fineB b = true := by
  cases hk : okE B a b ps
  · rw [told_bad hk] at h; cases h
  · obtain ⟨_, ha, hb, _⟩ := okE_iff.1 hk
    exact ⟨ha, hb⟩
theorem fine_nb {a : En} (h : fineB a = true) : a.bad = false := (fineB_iff.1 h).1
theorem div_nz {a b : En} (h : (divE a b).bad = false) : zeroB b = false ∧ fineB a = true ∧ fineB b = true := by
  unfold divE at h
  cases hz : zeroB b
  · rw [hz] at h
    exact ⟨rfl, told_fine h⟩
  · rw [hz] at h; cases h
/-- Whatever it is divided by. -/
theorem encQ_div' {a b : En} {q r : Rat} (ha : EncQ a q) (hb : EncQ b r) : EncQ (divE a b) (q / r) ∧ ((divE a b).bad = false → r ≠ 0) := by
  by_cases h0 : r = 0
  · have hw : (divE a b).bad = false → False := fun h => by
      obtain ⟨hz, _, hfb⟩ := div_nz h
      rcases encQ_iff.1 hb with e | ⟨_, h1, h2⟩
      · rw [e] at hfb; cases hfb
      · rw [h0, Rat.zero_mul] at h1 h2
        have i1 := Rat.intCast_nonpos.1 h1
        have i2 := Rat.intCast_nonneg.1 h2
        unfold zeroB at hz
        simp at hz
        omega
    refine ⟨?_, fun h => (hw h).elim⟩
    have : divE a b = wrongE := by
      cases hz : zeroB b
      · rcases (show FineOr (divE a b) from fine_div a b) with e | ⟨e, _⟩
        · exact e
        · exact (hw e).elim
      · unfold divE; rw [hz]; rfl
    rw [this]
    exact .inl rfl
  · exact ⟨encQ_div h0 ha hb, fun _ => h0⟩
/-- One step, in rational numbers, with p on the diagonal. -/
def qV (k : Nat) (p : Rat) (a : Nat → Nat → Rat) (j : Nat) : Rat := if j = k then a k k - p else a k j
def qT (m k : Nat) (p : Rat) (a : Nat → Nat → Rat) (i : Nat) : Rat := (dT m k (a i) (qV k p a) + dT m k (a i) (qV k p a)) / dT m k (qV k p a) (qV k p a)
def qStep (m k : Nat) (p : Rat) (a : Nat → Nat → Rat) (i j : Nat) : Rat :=
  if i = k then (if j = k then p else if k < j then 0 else a i j) else if k < i ∧ k ≤ j then a i j - qV k p a j * qT m k p a i else a i j
theorem encQ_step {n m k : Nat} (hkn : k < n) (hnm : n ≤ m) {b : Bool} {A : Nat → Nat → En} {B : Nat → Nat → Rat} {p : Rat} (h : ∀ i j, i < n → j < m → EncQ (A i j) (B i j)) (hp : EncQ (pH kdN m k b A) p) :
    (∀ i j, i < n → j < m → EncQ (foldStep kdN m k b A i j) (qStep m k p B i j)) ∧ ∀ i, i < n → (tH kdN m k b A i).bad = false → EncQ (tH kdN m k b A i) (qT m k p B i) ∧ dT m k (qV k p B) (qV k p B) ≠ 0 := by
  have hv : ∀ c, k ≤ c → c < m → EncQ (vH kdN m k b A c) (qV k p B c) := fun c h1 h2 => by
    unfold vH qV
    by_cases hc : c = k
    · rw [if_pos hc, if_pos hc]; exact encQ_sub (h k k hkn (by omega)) hp
    · rw [if_neg hc, if_neg hc]; exact h k c hkn h2
  have hvv := encR_dT hv hv
  have ht : ∀ i, i < n → EncQ (tH kdN m k b A i) (qT m k p B i) ∧ ((tH kdN m k b A i).bad = false → dT m k (qV k p B) (qV k p B) ≠ 0) := fun i hi => by
    have hd := encR_dT (m := m) (k := k) (f := A i) (g := B i) (fun c _ h2 => h i c hi h2) hv
    exact encQ_div' (encQ_add hd hd) hvv
  refine ⟨fun i j hi hj => ?_, fun i hi hb => ⟨(ht i hi).1, (ht i hi).2 hb⟩⟩
  unfold foldStep qStep
  by_cases h1 : i = k
  · rw [if_pos h1, if_pos h1]
    by_cases h2 : j = k
    · rw [if_pos h2, if_pos h2]; exact hp
    · rw [if_neg h2, if_neg h2]
      by_cases h3 : k < j
      · rw [if_pos h3, if_pos h3]; exact encQ_whole 0
      · rw [if_neg h3, if_neg h3]; exact h i j hi hj
  · rw [if_neg h1, if_neg h1]
    by_cases h2 : k < i ∧ k ≤ j
    · rw [if_pos h2, if_pos h2]
      exact encQ_sub (h i j hi hj) (encQ_mul (hv j h2.2 hj) (ht i hi).1)
    · rw [if_neg h2, if_neg h2]; exact h i j hi hj
/-- What two rows are behind a step, where p's square is x's but for h. -/
theorem gram_step {m k : Nat} (hkm : k < m) {B : Nat → Nat → Rat} {p h : Rat} (hp : p * p = dT m k (B k) (B k) + h) (hz : ∀ i c, i < k → i < c → c < m → B i c = 0) {i j : Nat} (hij : i ≤ j) (hvv : k < j → dT m k (qV k p B) (qV k p B) ≠ 0) :
    sumH m (fun c => qStep m k p B i c * qStep m k p B j c) = sumH m (fun c => B i c * B j c) + (if i = k then (if j = k then h else h * qT m k p B j / 2) else 0) := by
  have hm : m = k + (m - k) := by omega
  have hs : ∀ f : Nat → Rat, sumH m f = sumH k f + sumH (m - k) fun j => f (k + j) := fun f => by
    have := sumH_split f k (m - k)
    rw [← hm] at this
    exact this
  have old : ∀ i c, c < k → qStep m k p B i c = B i c := fun i c hc => by
    unfold qStep
    by_cases h : i = k
    · rw [if_pos h, if_neg (by omega), if_neg (by omega)]
    · rw [if_neg h, if_neg (by omega)]
  have low : ∀ i c, i < k → qStep m k p B i c = B i c := fun i c hc => by
    unfold qStep
    rw [if_neg (by omega), if_neg (by omega)]
  have new : ∀ i c, k < i → k ≤ c → qStep m k p B i c = B i c - qV k p B c * qT m k p B i := fun i c h1 h2 => by
    unfold qStep
    rw [if_neg (by omega), if_pos ⟨h1, h2⟩]
  rw [hs, hs, sumH_congr k (g := fun c => B i c * B j c) fun c hc => by rw [old i c hc, old j c hc], Rat.add_assoc]
  congr 1
  show dT m k (fun c => qStep m k p B i c) (fun c => qStep m k p B j c) = dT m k (B i) (B j) + _
  by_cases h1 : i < k
  · rw [if_neg (by omega), Rat.add_zero, dT_zero (fun c h2 h3 => by rw [low i c h1]; exact hz i c h1 (by omega) h3), dT_zero (fun c h2 h3 => hz i c h1 (by omega) h3)]
  · by_cases h2 : i = k
    · rw [if_pos h2]
      subst h2
      have hz' : ∀ c, i < c → c < m → qStep m i p B i c = 0 := fun c h3 _ => by
        unfold qStep
        rw [if_pos rfl, if_neg (by omega), if_pos h3]
      have hpp : qStep m i p B i i = p := by unfold qStep; rw [if_pos rfl, if_pos rfl]
      rw [dT_one hkm hz', hpp]
      by_cases h3 : j = i
      · subst h3
        rw [if_pos rfl, hpp, hp]
      · rw [if_neg h3, new j i (by omega) (Nat.le_refl _)]
        have hvv' := hvv (by omega)
        obtain ⟨t, ht⟩ : ∃ t, t = qT m i p B j := ⟨_, rfl⟩
        rw [← ht]
        have v3 : t * dT m i (qV i p B) (qV i p B) = dT m i (B j) (qV i p B) + dT m i (B j) (qV i p B) := by
          rw [ht]
          unfold qT
          grind
        have v1 : qV i p B i = B i i - p := by unfold qV; rw [if_pos rfl]
        have ev : ∀ g : Nat → Rat, dT m i (qV i p B) g = dT m i (B i) g - p * g i := fun g => by
          rw [dT_congr (f' := fun c => B i c - (if c = i then (1 : Rat) else 0) * p) (g' := g) (fun c h4 h5 => by
            unfold qV
            by_cases hc : c = i
            · subst hc; rw [if_pos rfl, if_pos rfl]; grind
            · rw [if_neg hc, if_neg hc]; grind) (fun _ _ _ => rfl)]
          rw [dT_subl, dT_one (f := fun c => if c = i then (1 : Rat) else 0) hkm (fun c h4 _ => if_neg (by omega)), if_pos rfl]
          grind
        have e1 := ev (B j)
        have e2 := ev (qV i p B)
        have e3 := ev (B i)
        rw [dT_comm m i (B i) (qV i p B)] at e2
        rw [dT_comm m i (B j) (qV i p B)] at v3
        rw [v1] at e2 ⊢
        rw [e3] at e2
        rw [e2, e1] at v3
        grind
    · rw [if_neg h2, Rat.add_zero]
      have hvv' := hvv (by omega)
      rw [dT_congr (fun c h3 h4 => new i c (by omega) h3) (fun c h3 h4 => new j c (by omega) h3)]
      refine dT_fold hvv' ?_ ?_
      · unfold qT; grind
      · unfold qT; grind
end Go.Proofs.YtljmggemdkfbiaaGreat
