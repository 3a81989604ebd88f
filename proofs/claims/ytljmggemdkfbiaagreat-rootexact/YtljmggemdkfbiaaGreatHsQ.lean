/- Where a fold's triangle is fine, in fractions, its square is the square of what was folded (layer 8, HouseExact). Mathematics alone. -/
import Derived.Test.YtljmggemdkfbiaaGreatHsM
import Derived.Test.YtljmggemdkfbiaaGreatKdf
namespace Go.Proofs.YtljmggemdkfbiaaGreat
open Go.RowKit
set_option linter.unusedSimpArgs false
set_option linter.unusedVariables false

/-- Fractions, as a kind. -/
theorem neg_q {a : Fr} (h : fineR (negR a) = true) : fineR a = true ∧ toQ (negR a) = -toQ a := by
  obtain ⟨_, h2, h3⟩ := sub_q (a := zR) (b := a) h
  refine ⟨h2, ?_⟩
  rw [show negR a = subR zR a from rfl, h3, toQ_z]
  grind
theorem z_q : toQ (wholeF 0) = 0 := new0_q
theorem tailH_q (m k : Nat) (f : Nat → Fr) : (tailH m k f).map toQ = (List.range (m - k)).map fun j => toQ (f (k + j)) := by unfold tailH; rw [List.map_map]; rfl
theorem dot_tail {m k : Nat} {f g : Nat → Fr} (h : fineR (dotF (tailH m k f) (tailH m k g)) = true) : (∀ c, k ≤ c → c < m → fineR (f c) = true ∧ fineR (g c) = true) ∧ toQ (dotF (tailH m k f) (tailH m k g)) = dT m k (fun c => toQ (f c)) (fun c => toQ (g c)) := by
  obtain ⟨h1, h2⟩ := dot_q h
  refine ⟨fun c h3 h4 => ?_, ?_⟩
  · have hm : mulR (f c) (g c) ∈ List.zipWith mulR (tailH m k f) (tailH m k g) := by
      refine List.mem_of_getElem? (i := c - k) ?_
      unfold tailH
      rw [List.getElem?_zipWith, List.getElem?_map, List.getElem?_map, List.getElem?_range (by omega)]
      simp [show k + (c - k) = c by omega]
    have := mul_q (h1 _ hm)
    exact ⟨this.1, this.2.1⟩
  · rw [h2, tailH_q, tailH_q, dotQ_sumH]
    rfl
/-- A row that has one number alone, at k. -/
theorem dT_one {m k : Nat} {f g : Nat → Rat} (hk : k < m) (h : ∀ c, k < c → c < m → f c = 0) : dT m k f g = f k * g k := by
  unfold dT
  obtain ⟨d, hd⟩ : ∃ d, m - k = 1 + d := ⟨m - k - 1, by omega⟩
  rw [hd, sumH_split]
  rw [sumH_zero d (fun j hj => by rw [h (k + (1 + j)) (by omega) (by omega), Rat.zero_mul])]
  show (0 : Rat) + f (k + 0) * g (k + 0) + 0 = _
  rw [Nat.add_zero, Rat.zero_add, Rat.add_zero]
theorem dT_zero {m k : Nat} {f g : Nat → Rat} (h : ∀ c, k ≤ c → c < m → f c = 0) : dT m k f g = 0 :=
  sumH_zero _ fun j hj => by rw [h (k + j) (by omega) (by omega), Rat.zero_mul]
theorem dT_congr {m k : Nat} {f g f' g' : Nat → Rat} (h : ∀ c, k ≤ c → c < m → f c = f' c) (h2 : ∀ c, k ≤ c → c < m → g c = g' c) : dT m k f g = dT m k f' g' :=
  sumH_congr _ fun j hj => by rw [h (k + j) (by omega) (by omega), h2 (k + j) (by omega) (by omega)]

theorem fold_all {n m : Nat} (hnm : n ≤ m) (σ τ : Nat → Bool) (a : Nat → Nat → Fr) (hT : ∀ i j, i < n → j ≤ i → fineR (foldH kdF n m σ τ a i j) = true) :
    ∀ i j, i < n → j < n → sumH n (fun c => toQ (foldH kdF n m σ τ a i c) * toQ (foldH kdF n m σ τ a j c)) = sumH m fun c => toQ (a i c) * toQ (a j c) := by
  obtain ⟨A, hA⟩ : ∃ A, A = foldTo kdF m σ a := ⟨_, rfl⟩
  have step : ∀ k i j, A (k + 1) i j = foldStep kdF m k (σ k) (A k) i j := fun k i j => by rw [hA]; rfl
  -- what stands below the diagonal at the end
  have an : ∀ i c, i < n → c ≤ i → fineR (A n i c) = true := fun i c hi hc => by
    have h := hT i c hi hc
    unfold foldH signsH at h
    rw [if_neg (by omega), ← hA] at h
    by_cases hl : c ≤ i ∧ τ c = true
    · rw [if_pos hl] at h
      exact (neg_q h).1
    · rw [if_neg hl] at h
      exact h
  have stay : ∀ i c k, i < k ∨ (c < k ∧ c < i) → ∀ d, A (k + d) i c = A k i c := fun i c k h d => by rw [hA]; exact foldTo_stays kdF m σ a h d
  have zero : ∀ i c k, i < k → i < c → A k i c = wholeF 0 := fun i c k h h2 => by rw [hA]; exact foldTo_zero kdF m σ a h h2
  have pk : ∀ k, A (k + 1) k k = pH kdF m k (σ k) (A k) := fun k => by rw [step]; unfold foldStep; rw [if_pos rfl, if_pos rfl]
  have hp : ∀ k, k < n → fineR (pH kdF m k (σ k) (A k)) = true := fun k hk => by
    obtain ⟨d, rfl⟩ := Nat.exists_eq_add_of_le (show k + 1 ≤ n from hk)
    have := an k k (by omega) (Nat.le_refl _)
    rw [stay k k (k + 1) (.inl (by omega)) d, pk] at this
    exact this
  -- the root
  have hroot : ∀ k, k < n → (∀ c, k ≤ c → c < m → fineR (A k k c) = true) ∧ toQ (pH kdF m k (σ k) (A k)) * toQ (pH kdF m k (σ k) (A k)) = dT m k (fun c => toQ (A k k c)) (fun c => toQ (A k k c)) := fun k hk => by
    have h := hp k hk
    obtain ⟨s, hs⟩ : ∃ s, s = rootR (dotF (tailH m k (A k k)) (tailH m k (A k k))) := ⟨_, rfl⟩
    have hps : fineR s = true ∧ toQ (pH kdF m k (σ k) (A k)) * toQ (pH kdF m k (σ k) (A k)) = toQ s * toQ s := by
      unfold pH at h ⊢
      by_cases hl : σ k = true
      · rw [if_pos hl] at h ⊢
        rw [hs]
        exact ⟨h, rfl⟩
      · rw [if_neg hl] at h ⊢
        obtain ⟨h1, h2⟩ := neg_q h
        rw [hs]
        refine ⟨h1, ?_⟩
        have h3 : toQ (kdF.neg (kdF.root (kdF.dot (tailH m k (A k k)) (tailH m k (A k k))))) = -toQ (rootR (dotF (tailH m k (A k k)) (tailH m k (A k k)))) := h2
        rw [h3]
        grind
    have hr := root_q (a := dotF (tailH m k (A k k)) (tailH m k (A k k))) (by rw [← hs]; exact hps.1)
    obtain ⟨h1, h2⟩ := dot_tail hr.1
    refine ⟨fun c hc hm => (h1 c hc hm).1, ?_⟩
    rw [hps.2, hs, hr.2.1, h2]
  -- rows that are still to come
  have rowi : ∀ i, i < n → ∀ c, c < m → fineR (A i i c) = true := fun i hi c hc => by
    by_cases h : c < i
    · obtain ⟨d, hd⟩ := Nat.exists_eq_add_of_le (show i ≤ n by omega)
      have := an i c hi (by omega)
      rw [hd, stay i c i (.inr ⟨h, h⟩) d] at this
      exact this
    · exact (hroot i hi).1 c (by omega) hc
  have down : ∀ k i, k < i → (∀ c, c < m → fineR (A (k + 1) i c) = true) → (∀ c, c < m → fineR (A k i c) = true) ∧ (k < m → fineR (tH kdF m k (σ k) (A k) i) = true ∧ ∀ c, k ≤ c → c < m → fineR (vH kdF m k (σ k) (A k) c) = true ∧ toQ (A (k + 1) i c) = toQ (A k i c) - toQ (vH kdF m k (σ k) (A k) c) * toQ (tH kdF m k (σ k) (A k) i)) := fun k i hk h => by
    have e : ∀ c, k ≤ c → A (k + 1) i c = subR (A k i c) (mulR (vH kdF m k (σ k) (A k) c) (tH kdF m k (σ k) (A k) i)) := fun c hc => by
      rw [step]; unfold foldStep; rw [if_neg (by omega), if_pos ⟨hk, hc⟩]; rfl
    have q : ∀ c, k ≤ c → c < m → fineR (A k i c) = true ∧ fineR (vH kdF m k (σ k) (A k) c) = true ∧ fineR (tH kdF m k (σ k) (A k) i) = true ∧ toQ (A (k + 1) i c) = toQ (A k i c) - toQ (vH kdF m k (σ k) (A k) c) * toQ (tH kdF m k (σ k) (A k) i) := fun c hc hm => by
      have h1 := h c hm
      rw [e c hc] at h1 ⊢
      obtain ⟨g1, g2, g3⟩ := sub_q h1
      obtain ⟨g4, g5, g6⟩ := mul_q g2
      exact ⟨g1, g4, g5, by rw [g3, g6]⟩
    refine ⟨fun c hc => ?_, fun hm => ⟨(q k (Nat.le_refl _) hm).2.2.1, fun c h1 h2 => ⟨(q c h1 h2).2.1, (q c h1 h2).2.2.2⟩⟩⟩
    by_cases h2 : k ≤ c
    · exact (q c h2 hc).1
    · have := h c hc
      rw [step] at this
      unfold foldStep at this
      rwa [if_neg (by omega), if_neg (by omega)] at this
  have rows : ∀ d k i, k + d = i → i < n → ∀ c, c < m → fineR (A k i c) = true := by
    intro d
    induction d with
    | zero =>
      intro k i h hi
      obtain rfl : k = i := by omega
      exact rowi k hi
    | succ d ih => intro k i h hi; exact (down k i (by omega) (ih (k + 1) i (by omega) hi)).1
  -- one step's rational numbers
  have vk : ∀ k i, k < i → i < n → toQ (vH kdF m k (σ k) (A k) k) = toQ (A k k k) - toQ (pH kdF m k (σ k) (A k)) ∧ (∀ c, k < c → vH kdF m k (σ k) (A k) c = A k k c) ∧
      toQ (tH kdF m k (σ k) (A k) i) * dT m k (fun c => toQ (vH kdF m k (σ k) (A k) c)) (fun c => toQ (vH kdF m k (σ k) (A k) c)) = dT m k (fun c => toQ (A k i c)) (fun c => toQ (vH kdF m k (σ k) (A k) c)) + dT m k (fun c => toQ (A k i c)) (fun c => toQ (vH kdF m k (σ k) (A k) c)) ∧
      dT m k (fun c => toQ (vH kdF m k (σ k) (A k) c)) (fun c => toQ (vH kdF m k (σ k) (A k) c)) ≠ 0 := fun k i hk hi => by
    obtain ⟨_, hd⟩ := down k i hk (rows (i - (k + 1)) (k + 1) i (by omega) hi)
    obtain ⟨ht, hv⟩ := hd (by omega)
    have h1 := (hv k (Nat.le_refl _) (by omega)).1
    refine ⟨?_, fun c hc => by unfold vH; rw [if_neg (by omega)], ?_⟩
    · unfold vH at h1 ⊢
      rw [if_pos rfl] at h1 ⊢
      exact (sub_q h1).2.2
    · obtain ⟨g1, g2, g3, g4⟩ := div_q (a := addR (dotF (tailH m k (A k i)) (tailH m k (vH kdF m k (σ k) (A k)))) (dotF (tailH m k (A k i)) (tailH m k (vH kdF m k (σ k) (A k))))) (b := dotF (tailH m k (vH kdF m k (σ k) (A k))) (tailH m k (vH kdF m k (σ k) (A k)))) ht
      have g5 := div_mul_q (a := addR (dotF (tailH m k (A k i)) (tailH m k (vH kdF m k (σ k) (A k)))) (dotF (tailH m k (A k i)) (tailH m k (vH kdF m k (σ k) (A k))))) (b := dotF (tailH m k (vH kdF m k (σ k) (A k))) (tailH m k (vH kdF m k (σ k) (A k)))) ht
      obtain ⟨g6, _, g7⟩ := add_q g1
      rw [(dot_tail g2).2] at g3 g5
      rw [g7, (dot_tail g6).2] at g5
      exact ⟨g5, g3⟩
  -- both rows behind one step
  have keep : ∀ k i j, k < n → i < n → j < n → i ≤ j → dT m k (fun c => toQ (A (k + 1) i c)) (fun c => toQ (A (k + 1) j c)) = dT m k (fun c => toQ (A k i c)) (fun c => toQ (A k j c)) := fun k i j hk hi hj hij => by
    have new : ∀ j, k < j → j < n → ∀ c, k ≤ c → c < m → toQ (A (k + 1) j c) = toQ (A k j c) - toQ (vH kdF m k (σ k) (A k) c) * toQ (tH kdF m k (σ k) (A k) j) := fun j h hj c hc hm => by
      obtain ⟨_, hd⟩ := down k j h (rows (j - (k + 1)) (k + 1) j (by omega) hj)
      exact ((hd (by omega)).2 c hc hm).2
    by_cases h1 : i < k
    · have e : A (k + 1) i = A k i := by funext c; exact stay i c k (.inl h1) 1
      rw [e, dT_zero (fun c h2 _ => by rw [zero i c k h1 (by omega)]; exact z_q), dT_zero (fun c h2 _ => by rw [zero i c k h1 (by omega)]; exact z_q)]
    · by_cases h2 : i = k
      · subst h2
        have hz : ∀ c, i < c → c < m → toQ (A (i + 1) i c) = 0 := fun c h _ => by rw [zero i c (i + 1) (by omega) h]; exact z_q
        rw [dT_one (by omega) hz, pk]
        by_cases h3 : j = i
        · subst h3
          rw [pk]
          exact (hroot j hj).2
        · have hji : i < j := by omega
          obtain ⟨v1, v2, v3, _⟩ := vk i j hji hj
          rw [new j hji hj i (Nat.le_refl _) (by omega)]
          have hr := (hroot i hk).2
          obtain ⟨p, hpp⟩ : ∃ p, p = toQ (pH kdF m i (σ i) (A i)) := ⟨_, rfl⟩
          obtain ⟨t, htt⟩ : ∃ t, t = toQ (tH kdF m i (σ i) (A i) j) := ⟨_, rfl⟩
          rw [← hpp] at hr v1 ⊢
          rw [← htt] at v3 ⊢
          -- v is x, less p at i
          have ev : ∀ g : Nat → Rat, dT m i (fun c => toQ (vH kdF m i (σ i) (A i) c)) g = dT m i (fun c => toQ (A i i c)) g - p * g i := fun g => by
            rw [dT_congr (f' := fun c => toQ (A i i c) - (if c = i then (1 : Rat) else 0) * p) (g' := g) (fun c h4 h5 => by
              by_cases hc : c = i
              · subst hc; rw [v1, if_pos rfl]; grind
              · rw [v2 c (by omega), if_neg hc]; grind) (fun _ _ _ => rfl)]
            rw [dT_subl, dT_one (f := fun c => if c = i then (1 : Rat) else 0) (by omega) (fun c h4 _ => if_neg (by omega)), if_pos rfl]
            grind
          have e1 := ev (fun c => toQ (A i j c))
          have e2 := ev (fun c => toQ (vH kdF m i (σ i) (A i) c))
          have e3 := ev (fun c => toQ (A i i c))
          rw [dT_comm m i (fun c => toQ (A i i c)) (fun c => toQ (vH kdF m i (σ i) (A i) c))] at e2
          rw [dT_comm m i (fun c => toQ (A i j c)) (fun c => toQ (vH kdF m i (σ i) (A i) c))] at v3
          rw [v1] at e2 ⊢
          rw [e3] at e2
          rw [e2] at v3
          rw [← hr] at v3
          rw [e1] at v3
          grind
      · obtain ⟨_, _, v3, v4⟩ := vk k i (by omega) hi
        obtain ⟨_, _, v5, _⟩ := vk k j (by omega) hj
        rw [dT_congr (fun c h3 h4 => new i (by omega) hi c h3 h4) (fun c h3 h4 => new j (by omega) hj c h3 h4)]
        exact dT_fold v4 v3 v5
  have gram : ∀ k, k ≤ n → ∀ i j, i < n → j < n → i ≤ j → sumH m (fun c => toQ (A k i c) * toQ (A k j c)) = sumH m fun c => toQ (a i c) * toQ (a j c) := by
    intro k
    induction k with
    | zero => intro _ i j _ _ _; rw [hA]; rfl
    | succ k ih =>
      intro hk i j hi hj hij
      rw [← ih (by omega) i j hi hj hij]
      have hm : m = k + (m - k) := by omega
      have old : ∀ i c, c < k → A (k + 1) i c = A k i c := fun i c hc => by
        rw [step]; unfold foldStep
        by_cases h : i = k
        · rw [if_pos h, if_neg (by omega), if_neg (by omega)]
        · rw [if_neg h, if_neg (by omega)]
      have hs : ∀ f : Nat → Rat, sumH m f = sumH k f + sumH (m - k) fun j => f (k + j) := fun f => by
        have := sumH_split f k (m - k)
        rw [← hm] at this
        exact this
      rw [hs, hs, sumH_congr k (g := fun c => toQ (A k i c) * toQ (A k j c)) fun c hc => by rw [old i c hc, old j c hc]]
      congr 1
      exact keep k i j (by omega) hi hj hij
  -- the end
  have fin : ∀ i j, i < n → j < n → i ≤ j → sumH n (fun c => toQ (foldH kdF n m σ τ a i c) * toQ (foldH kdF n m σ τ a j c)) = sumH m fun c => toQ (a i c) * toQ (a j c) := fun i j hi hj hij => by
    rw [← gram n (Nat.le_refl _) i j hi hj hij]
    obtain ⟨d, hd⟩ := Nat.exists_eq_add_of_le hnm
    rw [hd, sumH_split, sumH_zero d (fun c hc => by rw [zero i (n + c) n hi (by omega), z_q, Rat.zero_mul]), Rat.add_zero]
    refine sumH_congr n fun c hc => ?_
    by_cases h : i < c
    · rw [zero i c n hi h, z_q, Rat.zero_mul]
      unfold foldH
      rw [if_pos h]
      show toQ (wholeF 0) * _ = 0
      rw [z_q, Rat.zero_mul]
    · have one : ∀ i, i < n → c ≤ i → toQ (foldH kdF n m σ τ a i c) = (if τ c = true then -1 else 1) * toQ (A n i c) := fun i hi h => by
        have hf := hT i c hi h
        unfold foldH signsH at hf ⊢
        rw [← hd, ← hA] at *
        rw [if_neg (by omega)] at hf ⊢
        by_cases hl : τ c = true
        · rw [if_pos ⟨h, hl⟩] at hf ⊢
          rw [if_pos hl]
          have := (neg_q hf).2
          show toQ (negR (A n i c)) = _
          rw [this]
          grind
        · rw [if_neg (fun hh => hl hh.2)] at hf ⊢
          rw [if_neg hl]
          grind
      rw [← hd] at *
      rw [one i hi (by omega), one j hj (by omega)]
      by_cases hl : τ c = true
      · rw [if_pos hl]; grind
      · rw [if_neg hl]; grind
  intro i j hi hj
  by_cases h : i ≤ j
  · exact fin i j hi hj h
  · rw [sumH_congr n (g := fun c => toQ (foldH kdF n m σ τ a j c) * toQ (foldH kdF n m σ τ a i c)) fun c _ => Rat.mul_comm _ _, fin j i hj hi (by omega)]
    exact sumH_congr m fun c _ => Rat.mul_comm _ _
end Go.Proofs.YtljmggemdkfbiaaGreat
