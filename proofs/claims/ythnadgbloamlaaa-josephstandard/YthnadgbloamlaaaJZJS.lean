/- In fractions P behind an update is P less the column u times the row u, by the spread; X is X and u scaled by the surprise by it. Conditions: none (every input). -/
import Derived.Test.YthnadgbloamlaaaHsM
import Derived.Test.YthnadgbloamlaaaJB
import Derived.Test.YthnadgbloamlaaaJA
import Derived.Test.YthnadgbloamlaaaJC
import Derived.Test.YthnadgbloamlaaaFr6
import Derived.Test.YthnadgbloamlaaaFr7
import Derived.Test.YthnadgbloamlaaaJD
import Derived.ProofKit
import Derived.OpenShut
import Derived.Lib.SmallJoins
import Derived.Carry
/- Where a fold's triangle is fine, in fractions, its square is the square of what was folded (layer 8, HouseExact). Mathematics alone. -/
namespace Go.Proofs.Ythnadgbloamlaaa
open Go.RowKit
set_option linter.unusedSimpArgs false
set_option linter.unusedVariables false

/-- Fractions, as a kind. -/
theorem neg_q {a : Fr} (h : fineR (negR a) = true) : fineR a = true ∧ toQ (negR a) = -toQ a := by
  obtain ⟨_, h2, h3⟩ := sub_q (a := zR) (b := a) h
  refine ⟨h2, ?_⟩
  rw [show negR a = subR zR a from rfl, h3, toQ_z]
  grind
theorem z_q : toQ (wholeF 0) = 0 := new0_q
theorem tailH_q (m k : Nat) (f : Nat → Fr) : (tailH m k f).map toQ = (List.range (m - k)).map fun j => toQ (f (k + j)) := by unfold tailH; rw [List.map_map]; rfl
theorem dot_tail {m k : Nat} {f g : Nat → Fr} (h : fineR (dotF (tailH m k f) (tailH m k g)) = true) : (∀ c, k ≤ c → c < m → fineR (f c) = true ∧ fineR (g c) = true) ∧ toQ (dotF (tailH m k f) (tailH m k g)) = dT m k (fun c => toQ (f c)) (fun c => toQ (g c)) := by
  obtain ⟨h1, h2⟩ := dot_q h
  refine ⟨fun c h3 h4 => ?_, ?_⟩
  · have hm : mulR (f c) (g c) ∈ List.zipWith mulR (tailH m k f) (tailH m k g) := by
      refine List.mem_of_getElem? (i := c - k) ?_
      unfold tailH
      rw [List.getElem?_zipWith, List.getElem?_map, List.getElem?_map, List.getElem?_range (by omega)]
      simp [show k + (c - k) = c by omega]
    have := mul_q (h1 _ hm)
    exact ⟨this.1, this.2.1⟩
  · rw [h2, tailH_q, tailH_q, dotQ_sumH]
    rfl
/-- A row that has one number alone, at k. -/
theorem dT_one {m k : Nat} {f g : Nat → Rat} (hk : k < m) (h : ∀ c, k < c → c < m → f c = 0) : dT m k f g = f k * g k := by
  unfold dT
  obtain ⟨d, hd⟩ : ∃ d, m - k = 1 + d := ⟨m - k - 1, by omega⟩
  rw [hd, sumH_split]
  rw [sumH_zero d (fun j hj => by rw [h (k + (1 + j)) (by omega) (by omega), Rat.zero_mul])]
  show (0 : Rat) + f (k + 0) * g (k + 0) + 0 = _
  rw [Nat.add_zero, Rat.zero_add, Rat.add_zero]
theorem dT_zero {m k : Nat} {f g : Nat → Rat} (h : ∀ c, k ≤ c → c < m → f c = 0) : dT m k f g = 0 :=
  sumH_zero _ fun j hj => by rw [h (k + j) (by omega) (by omega), Rat.zero_mul]
theorem dT_congr {m k : Nat} {f g f' g' : Nat → Rat} (h : ∀ c, k ≤ c → c < m → f c = f' c) (h2 : ∀ c, k ≤ c → c < m → g c = g' c) : dT m k f g = dT m k f' g' :=
  sumH_congr _ fun j hj => by rw [h (k + j) (by omega) (by omega), h2 (k + j) (by omega) (by omega)]

theorem fold_all {n m : Nat} (hnm : n ≤ m) (σ τ : Nat → Bool) (a : Nat → Nat → Fr) (hT : ∀ i j, i < n → j ≤ i → fineR (foldH kdF n m σ τ a i j) = true) :
    ∀ i j, i < n → j < n → sumH n (fun c => toQ (foldH kdF n m σ τ a i c) * toQ (foldH kdF n m σ τ a j c)) = sumH m fun c => toQ (a i c) * toQ (a j c) := by
  obtain ⟨A, hA⟩ : ∃ A, A = foldTo kdF m σ a := ⟨_, rfl⟩
  have step : ∀ k i j, A (k + 1) i j = foldStep kdF m k (σ k) (A k) i j := fun k i j => by rw [hA]; rfl
  -- what stands below the diagonal at the end
  have an : ∀ i c, i < n → c ≤ i → fineR (A n i c) = true := fun i c hi hc => by
    have h := hT i c hi hc
    unfold foldH signsH at h
    rw [if_neg (by omega), ← hA] at h
    by_cases hl : c ≤ i ∧ τ c = true
    · rw [if_pos hl] at h
      exact (neg_q h).1
    · rw [if_neg hl] at h
      exact h
  have stay : ∀ i c k, i < k ∨ (c < k ∧ c < i) → ∀ d, A (k + d) i c = A k i c := fun i c k h d => by rw [hA]; exact foldTo_stays kdF m σ a h d
  have zero : ∀ i c k, i < k → i < c → A k i c = wholeF 0 := fun i c k h h2 => by rw [hA]; exact foldTo_zero kdF m σ a h h2
  have pk : ∀ k, A (k + 1) k k = pH kdF m k (σ k) (A k) := fun k => by rw [step]; unfold foldStep; rw [if_pos rfl, if_pos rfl]
  have hp : ∀ k, k < n → fineR (pH kdF m k (σ k) (A k)) = true := fun k hk => by
    obtain ⟨d, rfl⟩ := Nat.exists_eq_add_of_le (show k + 1 ≤ n from hk)
    have := an k k (by omega) (Nat.le_refl _)
    rw [stay k k (k + 1) (.inl (by omega)) d, pk] at this
    exact this
  -- the root
  have hroot : ∀ k, k < n → (∀ c, k ≤ c → c < m → fineR (A k k c) = true) ∧ toQ (pH kdF m k (σ k) (A k)) * toQ (pH kdF m k (σ k) (A k)) = dT m k (fun c => toQ (A k k c)) (fun c => toQ (A k k c)) := fun k hk => by
    have h := hp k hk
    obtain ⟨s, hs⟩ : ∃ s, s = rootR (dotF (tailH m k (A k k)) (tailH m k (A k k))) := ⟨_, rfl⟩
    have hps : fineR s = true ∧ toQ (pH kdF m k (σ k) (A k)) * toQ (pH kdF m k (σ k) (A k)) = toQ s * toQ s := by
      unfold pH at h ⊢
      by_cases hl : σ k = true
      · rw [if_pos hl] at h ⊢
        rw [hs]
        exact ⟨h, rfl⟩
      · rw [if_neg hl] at h ⊢
        obtain ⟨h1, h2⟩ := neg_q h
        rw [hs]
        refine ⟨h1, ?_⟩
        have h3 : toQ (kdF.neg (kdF.root (kdF.dot (tailH m k (A k k)) (tailH m k (A k k))))) = -toQ (rootR (dotF (tailH m k (A k k)) (tailH m k (A k k)))) := h2
        rw [h3]
        grind
    have hr := root_q (a := dotF (tailH m k (A k k)) (tailH m k (A k k))) (by rw [← hs]; exact hps.1)
    obtain ⟨h1, h2⟩ := dot_tail hr.1
    refine ⟨fun c hc hm => (h1 c hc hm).1, ?_⟩
    rw [hps.2, hs, hr.2.1, h2]
  -- rows that are still to come
  have rowi : ∀ i, i < n → ∀ c, c < m → fineR (A i i c) = true := fun i hi c hc => by
    by_cases h : c < i
    · obtain ⟨d, hd⟩ := Nat.exists_eq_add_of_le (show i ≤ n by omega)
      have := an i c hi (by omega)
      rw [hd, stay i c i (.inr ⟨h, h⟩) d] at this
      exact this
    · exact (hroot i hi).1 c (by omega) hc
  have down : ∀ k i, k < i → (∀ c, c < m → fineR (A (k + 1) i c) = true) → (∀ c, c < m → fineR (A k i c) = true) ∧ (k < m → fineR (tH kdF m k (σ k) (A k) i) = true ∧ ∀ c, k ≤ c → c < m → fineR (vH kdF m k (σ k) (A k) c) = true ∧ toQ (A (k + 1) i c) = toQ (A k i c) - toQ (vH kdF m k (σ k) (A k) c) * toQ (tH kdF m k (σ k) (A k) i)) := fun k i hk h => by
    have e : ∀ c, k ≤ c → A (k + 1) i c = subR (A k i c) (mulR (vH kdF m k (σ k) (A k) c) (tH kdF m k (σ k) (A k) i)) := fun c hc => by
      rw [step]; unfold foldStep; rw [if_neg (by omega), if_pos ⟨hk, hc⟩]; rfl
    have q : ∀ c, k ≤ c → c < m → fineR (A k i c) = true ∧ fineR (vH kdF m k (σ k) (A k) c) = true ∧ fineR (tH kdF m k (σ k) (A k) i) = true ∧ toQ (A (k + 1) i c) = toQ (A k i c) - toQ (vH kdF m k (σ k) (A k) c) * toQ (tH kdF m k (σ k) (A k) i) := fun c hc hm => by
      have h1 := h c hm
      rw [e c hc] at h1 ⊢
      obtain ⟨g1, g2, g3⟩ := sub_q h1
      obtain ⟨g4, g5, g6⟩ := mul_q g2
      exact ⟨g1, g4, g5, by rw [g3, g6]⟩
    refine ⟨fun c hc => ?_, fun hm => ⟨(q k (Nat.le_refl _) hm).2.2.1, fun c h1 h2 => ⟨(q c h1 h2).2.1, (q c h1 h2).2.2.2⟩⟩⟩
    by_cases h2 : k ≤ c
    · exact (q c h2 hc).1
    · have := h c hc
      rw [step] at this
      unfold foldStep at this
      rwa [if_neg (by omega), if_neg (by omega)] at this
  have rows : ∀ d k i, k + d = i → i < n → ∀ c, c < m → fineR (A k i c) = true := by
    intro d
    induction d with
    | zero =>
      intro k i h hi
      obtain rfl : k = i := by omega
      exact rowi k hi
    | succ d ih => intro k i h hi; exact (down k i (by omega) (ih (k + 1) i (by omega) hi)).1
  -- one step's rational numbers
  have vk : ∀ k i, k < i → i < n → toQ (vH kdF m k (σ k) (A k) k) = toQ (A k k k) - toQ (pH kdF m k (σ k) (A k)) ∧ (∀ c, k < c → vH kdF m k (σ k) (A k) c = A k k c) ∧
      toQ (tH kdF m k (σ k) (A k) i) * dT m k (fun c => toQ (vH kdF m k (σ k) (A k) c)) (fun c => toQ (vH kdF m k (σ k) (A k) c)) = dT m k (fun c => toQ (A k i c)) (fun c => toQ (vH kdF m k (σ k) (A k) c)) + dT m k (fun c => toQ (A k i c)) (fun c => toQ (vH kdF m k (σ k) (A k) c)) ∧
      dT m k (fun c => toQ (vH kdF m k (σ k) (A k) c)) (fun c => toQ (vH kdF m k (σ k) (A k) c)) ≠ 0 := fun k i hk hi => by
    obtain ⟨_, hd⟩ := down k i hk (rows (i - (k + 1)) (k + 1) i (by omega) hi)
    obtain ⟨ht, hv⟩ := hd (by omega)
    have h1 := (hv k (Nat.le_refl _) (by omega)).1
    refine ⟨?_, fun c hc => by unfold vH; rw [if_neg (by omega)], ?_⟩
    · unfold vH at h1 ⊢
      rw [if_pos rfl] at h1 ⊢
      exact (sub_q h1).2.2
    · obtain ⟨g1, g2, g3, g4⟩ := div_q (a := addR (dotF (tailH m k (A k i)) (tailH m k (vH kdF m k (σ k) (A k)))) (dotF (tailH m k (A k i)) (tailH m k (vH kdF m k (σ k) (A k))))) (b := dotF (tailH m k (vH kdF m k (σ k) (A k))) (tailH m k (vH kdF m k (σ k) (A k)))) ht
      have g5 := div_mul_q (a := addR (dotF (tailH m k (A k i)) (tailH m k (vH kdF m k (σ k) (A k)))) (dotF (tailH m k (A k i)) (tailH m k (vH kdF m k (σ k) (A k))))) (b := dotF (tailH m k (vH kdF m k (σ k) (A k))) (tailH m k (vH kdF m k (σ k) (A k)))) ht
      obtain ⟨g6, _, g7⟩ := add_q g1
      rw [(dot_tail g2).2] at g3 g5
      rw [g7, (dot_tail g6).2] at g5
      exact ⟨g5, g3⟩
  -- both rows behind one step
  have keep : ∀ k i j, k < n → i < n → j < n → i ≤ j → dT m k (fun c => toQ (A (k + 1) i c)) (fun c => toQ (A (k + 1) j c)) = dT m k (fun c => toQ (A k i c)) (fun c => toQ (A k j c)) := fun k i j hk hi hj hij => by
    have new : ∀ j, k < j → j < n → ∀ c, k ≤ c → c < m → toQ (A (k + 1) j c) = toQ (A k j c) - toQ (vH kdF m k (σ k) (A k) c) * toQ (tH kdF m k (σ k) (A k) j) := fun j h hj c hc hm => by
      obtain ⟨_, hd⟩ := down k j h (rows (j - (k + 1)) (k + 1) j (by omega) hj)
      exact ((hd (by omega)).2 c hc hm).2
    by_cases h1 : i < k
    · have e : A (k + 1) i = A k i := by funext c; exact stay i c k (.inl h1) 1
      rw [e, dT_zero (fun c h2 _ => by rw [zero i c k h1 (by omega)]; exact z_q), dT_zero (fun c h2 _ => by rw [zero i c k h1 (by omega)]; exact z_q)]
    · by_cases h2 : i = k
      · subst h2
        have hz : ∀ c, i < c → c < m → toQ (A (i + 1) i c) = 0 := fun c h _ => by rw [zero i c (i + 1) (by omega) h]; exact z_q
        rw [dT_one (by omega) hz, pk]
        by_cases h3 : j = i
        · subst h3
          rw [pk]
          exact (hroot j hj).2
        · have hji : i < j := by omega
          obtain ⟨v1, v2, v3, _⟩ := vk i j hji hj
          rw [new j hji hj i (Nat.le_refl _) (by omega)]
          have hr := (hroot i hk).2
          obtain ⟨p, hpp⟩ : ∃ p, p = toQ (pH kdF m i (σ i) (A i)) := ⟨_, rfl⟩
          obtain ⟨t, htt⟩ : ∃ t, t = toQ (tH kdF m i (σ i) (A i) j) := ⟨_, rfl⟩
          rw [← hpp] at hr v1 ⊢
          rw [← htt] at v3 ⊢
          -- v is x, less p at i
          have ev : ∀ g : Nat → Rat, dT m i (fun c => toQ (vH kdF m i (σ i) (A i) c)) g = dT m i (fun c => toQ (A i i c)) g - p * g i := fun g => by
            rw [dT_congr (f' := fun c => toQ (A i i c) - (if c = i then (1 : Rat) else 0) * p) (g' := g) (fun c h4 h5 => by
              by_cases hc : c = i
              · subst hc; rw [v1, if_pos rfl]; grind
              · rw [v2 c (by omega), if_neg hc]; grind) (fun _ _ _ => rfl)]
            rw [dT_subl, dT_one (f := fun c => if c = i then (1 : Rat) else 0) (by omega) (fun c h4 _ => if_neg (by omega)), if_pos rfl]
            grind
          have e1 := ev (fun c => toQ (A i j c))
          have e2 := ev (fun c => toQ (vH kdF m i (σ i) (A i) c))
          have e3 := ev (fun c => toQ (A i i c))
          rw [dT_comm m i (fun c => toQ (A i i c)) (fun c => toQ (vH kdF m i (σ i) (A i) c))] at e2
          rw [dT_comm m i (fun c => toQ (A i j c)) (fun c => toQ (vH kdF m i (σ i) (A i) c))] at v3
          rw [v1] at e2 ⊢
          rw [e3] at e2
          rw [e2] at v3
          rw [← hr] at v3
          rw [e1] at v3
          grind
      · obtain ⟨_, _, v3, v4⟩ := vk k i (by omega) hi
        obtain ⟨_, _, v5, _⟩ := vk k j (by omega) hj
        rw [dT_congr (fun c h3 h4 => new i (by omega) hi c h3 h4) (fun c h3 h4 => new j (by omega) hj c h3 h4)]
        exact dT_fold v4 v3 v5
  have gram : ∀ k, k ≤ n → ∀ i j, i < n → j < n → i ≤ j → sumH m (fun c => toQ (A k i c) * toQ (A k j c)) = sumH m fun c => toQ (a i c) * toQ (a j c) := by
    intro k
    induction k with
    | zero => intro _ i j _ _ _; rw [hA]; rfl
    | succ k ih =>
      intro hk i j hi hj hij
      rw [← ih (by omega) i j hi hj hij]
      have hm : m = k + (m - k) := by omega
      have old : ∀ i c, c < k → A (k + 1) i c = A k i c := fun i c hc => by
        rw [step]; unfold foldStep
        by_cases h : i = k
        · rw [if_pos h, if_neg (by omega), if_neg (by omega)]
        · rw [if_neg h, if_neg (by omega)]
      have hs : ∀ f : Nat → Rat, sumH m f = sumH k f + sumH (m - k) fun j => f (k + j) := fun f => by
        have := sumH_split f k (m - k)
        rw [← hm] at this
        exact this
      rw [hs, hs, sumH_congr k (g := fun c => toQ (A k i c) * toQ (A k j c)) fun c hc => by rw [old i c hc, old j c hc]]
      congr 1
      exact keep k i j (by omega) hi hj hij
  -- the end
  have fin : ∀ i j, i < n → j < n → i ≤ j → sumH n (fun c => toQ (foldH kdF n m σ τ a i c) * toQ (foldH kdF n m σ τ a j c)) = sumH m fun c => toQ (a i c) * toQ (a j c) := fun i j hi hj hij => by
    rw [← gram n (Nat.le_refl _) i j hi hj hij]
    obtain ⟨d, hd⟩ := Nat.exists_eq_add_of_le hnm
    rw [hd, sumH_split, sumH_zero d (fun c hc => by rw [zero i (n + c) n hi (by omega), z_q, Rat.zero_mul]), Rat.add_zero]
    refine sumH_congr n fun c hc => ?_
    by_cases h : i < c
    · rw [zero i c n hi h, z_q, Rat.zero_mul]
      unfold foldH
      rw [if_pos h]
      show toQ (wholeF 0) * _ = 0
      rw [z_q, Rat.zero_mul]
    · have one : ∀ i, i < n → c ≤ i → toQ (foldH kdF n m σ τ a i c) = (if τ c = true then -1 else 1) * toQ (A n i c) := fun i hi h => by
        have hf := hT i c hi h
        unfold foldH signsH at hf ⊢
        rw [← hd, ← hA] at *
        rw [if_neg (by omega)] at hf ⊢
        by_cases hl : τ c = true
        · rw [if_pos ⟨h, hl⟩] at hf ⊢
          rw [if_pos hl]
          have := (neg_q hf).2
          show toQ (negR (A n i c)) = _
          rw [this]
          grind
        · rw [if_neg (fun hh => hl hh.2)] at hf ⊢
          rw [if_neg hl]
          grind
      rw [← hd] at *
      rw [one i hi (by omega), one j hj (by omega)]
      by_cases hl : τ c = true
      · rw [if_pos hl]; grind
      · rw [if_neg hl]; grind
  intro i j hi hj
  by_cases h : i ≤ j
  · exact fin i j hi hj h
  · rw [sumH_congr n (g := fun c => toQ (foldH kdF n m σ τ a j c) * toQ (foldH kdF n m σ τ a i c)) fun c _ => Rat.mul_comm _ _, fin j i hj hi (by omega)]
    exact sumH_congr m fun c _ => Rat.mul_comm _ _
end Go.Proofs.Ythnadgbloamlaaa

/- Joseph's update in fractions: P less u times u by the spread; two of them tell the same whichever comes first. Mathematics alone. -/
namespace Go.Proofs.Ythnadgbloamlaaa
open Go.RowKit
set_option linter.unusedSimpArgs false
set_option linter.unusedVariables false

theorem dot_lin {n : Nat} {x y : Nat → Fr} (h : fineR (dotF (linJ n x) (linJ n y)) = true) : (∀ c, c < n → fineR (x c) = true ∧ fineR (y c) = true) ∧ toQ (dotF (linJ n x) (linJ n y)) = sumH n fun c => toQ (x c) * toQ (y c) := by
  have e : ∀ f : Nat → Fr, linJ n f = tailH n 0 f := fun f => by simp [tailH, linJ]
  rw [e, e] at h ⊢
  obtain ⟨h1, h2⟩ := dot_tail h
  refine ⟨fun c hc => h1 c (Nat.zero_le _) hc, h2.trans ?_⟩
  unfold dT
  rw [Nat.sub_zero]
  exact sumH_congr _ fun j _ => by rw [Nat.zero_add]
theorem mulK_q {M : Nat} {f g : Nat → Nat → Fr} {i k : Nat} (h : fineR (mulK kdF M f g i k) = true) : (∀ c, c < M → fineR (f i c) = true ∧ fineR (g c k) = true) ∧ toQ (mulK kdF M f g i k) = sumH M fun c => toQ (f i c) * toQ (g c k) :=
  dot_lin (x := f i) (y := fun c => g c k) h
theorem outer_q {c r : Nat → Fr} {i k : Nat} (h : fineR (outerJ kdF c r i k) = true) : fineR (c i) = true ∧ fineR (r k) = true ∧ toQ (outerJ kdF c r i k) = toQ (c i) * toQ (r k) := by
  obtain ⟨h1, h2⟩ := mulK_q h
  refine ⟨(h1 0 (by decide)).1, (h1 0 (by decide)).2, h2.trans ?_⟩
  show (0 : Rat) + toQ (c i) * toQ (r k) = _
  rw [Rat.zero_add]
theorem sumH_mulr (f : Nat → Rat) (s : Rat) : ∀ n, sumH n (fun j => f j * s) = sumH n f * s
  | 0 => by show (0 : Rat) = 0 * s; rw [Rat.zero_mul]
  | n + 1 => by show sumH n (fun j => f j * s) + f n * s = (sumH n f + f n) * s; rw [sumH_mulr f s n, Rat.add_mul]
theorem sumH_add (f g : Nat → Rat) : ∀ n, sumH n (fun j => f j + g j) = sumH n f + sumH n g
  | 0 => by show (0 : Rat) = 0 + 0; rw [Rat.zero_add]
  | n + 1 => by
    show sumH n (fun j => f j + g j) + (f n + g n) = (sumH n f + f n) + (sumH n g + g n)
    rw [sumH_add f g n]
    grind
theorem sumH_swap (f : Nat → Nat → Rat) (m : Nat) : ∀ n, sumH n (fun j => sumH m (fun l => f j l)) = sumH m (fun l => sumH n (fun j => f j l))
  | 0 => (sumH_zero m (fun _ _ => rfl)).symm
  | n + 1 => by
    show sumH n (fun j => sumH m (fun l => f j l)) + sumH m (fun l => f n l) = sumH m (fun l => sumH n (fun j => f j l) + f n l)
    rw [sumH_swap f m n, sumH_add]
theorem sumH_delta (f : Nat → Rat) (i : Nat) : ∀ n, sumH n (fun l => (if i = l then (1 : Rat) else 0) * f l) = if i < n then f i else 0
  | 0 => by rw [if_neg (by omega)]; rfl
  | n + 1 => by
    show sumH n (fun l => (if i = l then (1 : Rat) else 0) * f l) + (if i = n then (1 : Rat) else 0) * f n = _
    rw [sumH_delta f i n]
    by_cases h : i = n
    · subst h
      rw [if_neg (by omega), if_pos rfl, if_pos (by omega), Rat.zero_add, Rat.one_mul]
    · rw [if_neg h, Rat.zero_mul, Rat.add_zero]
      by_cases h2 : i < n
      · rw [if_pos h2, if_pos (by omega)]
      · rw [if_neg h2, if_neg (by omega)]
/-- The sum of an update. -/
theorem around_sum {n : Nat} {P : Nat → Nat → Rat} {H U : Nat → Rat} {A R : Rat} {i k : Nat} (hi : i < n) (hk : k < n) (hP : ∀ a b, a < n → b < n → P a b = P b a) (hU : ∀ c, c < n → U c = sumH n fun j => P c j * H j)
    (hA : A = (sumH n fun j => H j * U j) + R) (h0 : A ≠ 0) (Ki Kk : Rat) (hKi : Ki = U i / A) (hKk : Kk = U k / A) :
    (sumH n fun j => (sumH n fun l => ((if i = l then (1 : Rat) else 0) - Ki * H l) * P l j) * ((if k = j then (1 : Rat) else 0) - Kk * H j)) + Ki * R * Kk = P i k - U i * U k / A := by
  have inner : ∀ j, j < n → (sumH n fun l => ((if i = l then (1 : Rat) else 0) - Ki * H l) * P l j) = P i j - U j * Ki := fun j hj => by
    have e := sumH_lin (fun l => (if i = l then (1 : Rat) else 0) * P l j) (fun l => P j l * H l) Ki n
    rw [sumH_delta (fun l => P l j) i n, if_pos hi, ← hU j hj] at e
    rw [← e]
    exact sumH_congr _ fun l hl => by rw [hP j l hj hl]; grind
  have outer : (sumH n fun j => (sumH n fun l => ((if i = l then (1 : Rat) else 0) - Ki * H l) * P l j) * ((if k = j then (1 : Rat) else 0) - Kk * H j)) = (P i k - U k * Ki) - (U i - (A - R) * Ki) * Kk := by
    have e1 : (sumH n fun j => (P i j - U j * Ki) * H j) = U i - (A - R) * Ki := by
      have e := sumH_lin (fun j => P i j * H j) (fun j => H j * U j) Ki n
      rw [← hU i hi] at e
      have e2 : (sumH n fun j => H j * U j) = A - R := by rw [hA]; grind
      rw [e2] at e
      rw [← e]
      exact sumH_congr _ fun j _ => by grind
    have e := sumH_lin (fun j => (if k = j then (1 : Rat) else 0) * (P i j - U j * Ki)) (fun j => (P i j - U j * Ki) * H j) Kk n
    rw [sumH_delta (fun j => P i j - U j * Ki) k n, if_pos hk, e1] at e
    rw [← e]
    exact sumH_congr _ fun j hj => by rw [inner j hj]; grind
  rw [outer, hKi, hKk]
  grind
theorem around_q {n : Nat} {m p : Nat → Nat → Fr} {i k : Nat} (h : fineR (aroundJ kdF n m p i k) = true) :
    (∀ c, c < n → fineR (m i c) = true) ∧ (∀ c, c < n → fineR (m k c) = true) ∧ (∀ a b, a < n → b < n → fineR (p a b) = true) ∧
    toQ (aroundJ kdF n m p i k) = sumH n fun j => (sumH n fun l => toQ (m i l) * toQ (p l j)) * toQ (m k j) := by
  obtain ⟨h1, h2⟩ := mulK_q h
  have hm : ∀ c, c < n → fineR (m i c) = true := fun c hc => ((mulK_q (h1 c hc).1).1 c hc).1
  refine ⟨hm, fun c hc => (h1 c hc).2, fun a b ha hb => ((mulK_q (h1 b hb).1).1 a ha).2, h2.trans ?_⟩
  exact sumH_congr _ fun j hj => by rw [(mulK_q (h1 j hj).1).2]
/-- What an update tells, where it is fine. -/
structure UpQ (n : Nat) (p : Nat → Nat → Fr) (h : Nat → Fr) (r : Fr) (i k : Nat) (z : Fr) : Prop where
  fp : ∀ a b, a < n → b < n → fineR (p a b) = true
  fh : ∀ c, c < n → fineR (h c) = true
  ne : toQ (spreadJ kdF n p h r) ≠ 0
  fu : ∀ c, c < n → fineR (appJ kdF n p h c) = true ∧ toQ (appJ kdF n p h c) = sumH n fun j => toQ (p c j) * toQ (h j)
  ea : toQ (spreadJ kdF n p h r) = (sumH n fun j => toQ (h j) * toQ (appJ kdF n p h j)) + toQ r
  ez : toQ z = toQ (p i k) - toQ (appJ kdF n p h i) * toQ (appJ kdF n p h k) / toQ (spreadJ kdF n p h r)
theorem up_q0 {n : Nat} {one p : Nat → Nat → Fr} {h : Nat → Fr} {r : Fr} {i k : Nat} (hi : i < n) (hk : k < n) (hone : ∀ i j, toQ (one i j) = if i = j then 1 else 0) (hp : ∀ a b, a < n → b < n → toQ (p a b) = toQ (p b a))
    (hf : fineR (addR (aroundJ kdF n (restJ kdF one (gainJ kdF n p h r) h) p i k) (outerJ kdF (fun i => mulR (gainJ kdF n p h r i) r) (gainJ kdF n p h r) i k)) = true) :
    UpQ n p h r i k (addR (aroundJ kdF n (restJ kdF one (gainJ kdF n p h r) h) p i k) (outerJ kdF (fun i => mulR (gainJ kdF n p h r i) r) (gainJ kdF n p h r) i k)) := by
  obtain ⟨f1, f2, e0⟩ := add_q hf
  obtain ⟨m1, m2, fp, e1⟩ := around_q f1
  obtain ⟨kr, fk, e2⟩ := outer_q f2
  obtain ⟨fi, fr, e3⟩ := mul_q kr
  obtain ⟨fui, fa, ne, ei⟩ := div_q (show fineR (divR (appJ kdF n p h i) (spreadJ kdF n p h r)) = true from fi)
  obtain ⟨fuk, _, _, ek⟩ := div_q (show fineR (divR (appJ kdF n p h k) (spreadJ kdF n p h r)) = true from fk)
  obtain ⟨fd, _, ea⟩ := add_q (show fineR (addR (dotF (linJ n h) (linJ n (appJ kdF n p h))) r) = true from fa)
  obtain ⟨fc, ed⟩ := dot_lin fd
  have hu : ∀ c, c < n → fineR (appJ kdF n p h c) = true ∧ toQ (appJ kdF n p h c) = sumH n fun j => toQ (p c j) * toQ (h j) := fun c hc => ⟨(fc c hc).2, (dot_lin (x := p c) (y := h) (fc c hc).2).2⟩
  have ha : toQ (spreadJ kdF n p h r) = (sumH n fun j => toQ (h j) * toQ (appJ kdF n p h j)) + toQ r := by rw [← ed]; exact ea
  have rq : ∀ a c, c < n → fineR (restJ kdF one (gainJ kdF n p h r) h a c) = true → toQ (restJ kdF one (gainJ kdF n p h r) h a c) = (if a = c then 1 else 0) - toQ (gainJ kdF n p h r a) * toQ (h c) := fun a c hc hr => by
    obtain ⟨_, o1, o2⟩ := sub_q (show fineR (subR (one a c) (outerJ kdF (gainJ kdF n p h r) h a c)) = true from hr)
    rw [hone, (outer_q o1).2.2] at o2
    exact o2
  refine ⟨fp, fun c hc => (fc c hc).1, ne, hu, ha, ?_⟩
  have S := around_sum (P := fun a b => toQ (p a b)) (H := fun c => toQ (h c)) (U := fun c => toQ (appJ kdF n p h c)) (A := toQ (spreadJ kdF n p h r)) (R := toQ r) hi hk hp (fun c hc => (hu c hc).2) ha ne (toQ (gainJ kdF n p h r i)) (toQ (gainJ kdF n p h r k)) ei ek
  rw [e0, e1, e2, e3, ← S]
  congr 1
  exact sumH_congr _ fun j hj => by
    rw [rq k j hj (m2 j hj)]
    congr 1
    exact sumH_congr _ fun l hl => by rw [rq i l hl (m1 l hl)]
theorem up_q {n : Nat} {one p : Nat → Nat → Fr} {h : Nat → Fr} {r : Fr} {i k : Nat} (hi : i < n) (hk : k < n) (hone : ∀ i j, toQ (one i j) = if i = j then 1 else 0) (hp : ∀ a b, a < n → b < n → toQ (p a b) = toQ (p b a))
    (hf : fineR (upPJ kdF one n p h r i k) = true) : UpQ n p h r i k (upPJ kdF one n p h r i k) := by
  have hm : max i k < n := by omega
  have hM : min i k < n := by omega
  have U := up_q0 hm hM hone hp hf
  refine ⟨U.fp, U.fh, U.ne, U.fu, U.ea, U.ez.trans ?_⟩
  by_cases hik : k ≤ i
  · rw [Nat.max_eq_left hik, Nat.min_eq_right hik]
  · rw [Nat.max_eq_right (by omega), Nat.min_eq_left (by omega), hp k i hk hi, Rat.mul_comm (toQ (appJ kdF n p h k))]
theorem up_sym {n : Nat} {one p : Nat → Nat → Fr} {h : Nat → Fr} {r : Fr} (i k : Nat) : upPJ kdF one n p h r i k = upPJ kdF one n p h r k i := by
  unfold upPJ mirrJ mirM
  rw [Nat.max_comm, Nat.min_comm]
theorem two_alg {P Ui Uk Vi Vk α β γ : Rat} (ha : α ≠ 0) (hb : β ≠ 0) (h1 : β - γ * (γ / α) ≠ 0) (h2 : α - γ * (γ / β) ≠ 0) :
    P - Ui * Uk / α - (Vi - Ui * (γ / α)) * (Vk - Uk * (γ / α)) / (β - γ * (γ / α)) = P - Vi * Vk / β - (Ui - Vi * (γ / β)) * (Uk - Vk * (γ / β)) / (α - γ * (γ / β)) := by
  have e1 : β - γ * (γ / α) = (α * β - γ * γ) / α := by grind
  have e2 : α - γ * (γ / β) = (α * β - γ * γ) / β := by grind
  have hd : α * β - γ * γ ≠ 0 := fun e => h1 (by rw [e1, e]; grind)
  rw [e1, e2]
  grind
/-- What P is behind two updates, as rational numbers. -/
theorem two_q0 {n : Nat} {one p : Nat → Nat → Fr} {g h : Nat → Fr} {r : Fr} {i k : Nat} (hi : i < n) (hk : k < n) (hone : ∀ i j, toQ (one i j) = if i = j then 1 else 0) (hp : ∀ a b, a < n → b < n → toQ (p a b) = toQ (p b a))
    (hf : fineR (upPJ kdF one n (upPJ kdF one n p g r) h r i k) = true) {U V : Nat → Rat} (hU : ∀ c, U c = sumH n fun j => toQ (p c j) * toQ (g j)) (hV : ∀ c, V c = sumH n fun j => toQ (p c j) * toQ (h j)) {α β γ : Rat} (hα : α = (sumH n fun j => toQ (g j) * U j) + toQ r)
    (hβ : β = (sumH n fun j => toQ (h j) * V j) + toQ r) (hγ : γ = sumH n fun j => U j * toQ (h j)) :
    α ≠ 0 ∧ β - γ * (γ / α) ≠ 0 ∧ toQ (upPJ kdF one n (upPJ kdF one n p g r) h r i k) = toQ (p i k) - U i * U k / α - (V i - U i * (γ / α)) * (V k - U k * (γ / α)) / (β - γ * (γ / α)) := by
  have B := up_q hi hk hone (fun a b _ _ => by rw [up_sym]) hf
  have A : ∀ a b, a < n → b < n → UpQ n p g r a b (upPJ kdF one n p g r a b) := fun a b ha hb => up_q ha hb hone hp (B.fp a b ha hb)
  have A0 := A i k hi hk
  have eU : ∀ c, c < n → toQ (appJ kdF n p g c) = U c := fun c hc => (A0.fu c hc).2.trans (hU c).symm
  have eα : toQ (spreadJ kdF n p g r) = α := by rw [A0.ea, hα]; congr 1; exact sumH_congr _ fun j hj => by rw [eU j hj]
  have eP : ∀ a b, a < n → b < n → toQ (upPJ kdF one n p g r a b) = toQ (p a b) - U a * U b / α := fun a b ha hb => by rw [(A a b ha hb).ez, eU a ha, eU b hb, eα]
  have hα0 : α ≠ 0 := by rw [← eα]; exact A0.ne
  have eV : ∀ c, c < n → toQ (appJ kdF n (upPJ kdF one n p g r) h c) = V c - U c * (γ / α) := fun c hc => by
    rw [(B.fu c hc).2]
    have e := sumH_lin (fun j => toQ (p c j) * toQ (h j)) (fun j => U j * toQ (h j)) (U c / α) n
    rw [← hV c, ← hγ] at e
    have e2 : V c - U c * (γ / α) = V c - γ * (U c / α) := by grind
    rw [e2, ← e]
    exact sumH_congr _ fun j hj => by rw [eP c j hc hj]; grind
  have eβ : toQ (spreadJ kdF n (upPJ kdF one n p g r) h r) = β - γ * (γ / α) := by
    rw [B.ea]
    have e := sumH_lin (fun j => toQ (h j) * V j) (fun j => U j * toQ (h j)) (γ / α) n
    rw [← hγ] at e
    have e2 : β - γ * (γ / α) = (sumH n fun j => toQ (h j) * V j) - γ * (γ / α) + toQ r := by rw [hβ]; grind
    rw [e2, ← e]
    congr 1
    exact sumH_congr _ fun j hj => by rw [eV j hj]; grind
  have hb := B.ne
  rw [eβ] at hb
  exact ⟨hα0, hb, by rw [B.ez, eP i k hi hk, eV i hi, eV k hk, eβ]⟩
/-- Two updates: whichever comes first. -/
theorem two_q {n : Nat} {one p : Nat → Nat → Fr} {g h : Nat → Fr} {r : Fr} {i k : Nat} (hi : i < n) (hk : k < n) (hone : ∀ i j, toQ (one i j) = if i = j then 1 else 0) (hp : ∀ a b, a < n → b < n → toQ (p a b) = toQ (p b a))
    (hf : fineR (upPJ kdF one n (upPJ kdF one n p g r) h r i k) = true) (hf2 : fineR (upPJ kdF one n (upPJ kdF one n p h r) g r i k) = true) :
    upPJ kdF one n (upPJ kdF one n p g r) h r i k = upPJ kdF one n (upPJ kdF one n p h r) g r i k := by
  have hγ : (sumH n fun j => (sumH n fun l => toQ (p j l) * toQ (h l)) * toQ (g j)) = sumH n fun j => (sumH n fun l => toQ (p j l) * toQ (g l)) * toQ (h j) := by
    have e : ∀ (x y : Nat → Rat), (sumH n fun j => (sumH n fun l => toQ (p j l) * x l) * y j) = sumH n fun j => sumH n fun l => toQ (p j l) * x l * y j := fun x y => sumH_congr _ fun j _ => by rw [← sumH_mulr]
    rw [e, e, sumH_swap]
    exact sumH_congr _ fun l hl => sumH_congr _ fun j hj => by rw [hp j l hj hl]; grind
  obtain ⟨a1, a2, a3⟩ := two_q0 hi hk hone hp hf (fun _ => rfl) (fun _ => rfl) rfl rfl rfl
  obtain ⟨b1, b2, b3⟩ := two_q0 hi hk hone hp hf2 (fun _ => rfl) (fun _ => rfl) rfl rfl rfl
  rw [hγ] at b2 b3
  exact fr_eq hf hf2 (by rw [a3, b3]; exact two_alg a1 b1 a2 b2)
end Go.Proofs.Ythnadgbloamlaaa

/- Joseph's update in fractions against the words of the standard form; numbers that are told are fine, or Bad. Mathematics alone. -/
namespace Go.Proofs.Ythnadgbloamlaaa
open Go.RowKit
set_option linter.unusedSimpArgs false
set_option linter.unusedVariables false

theorem ofQ_bad9 (q : Rat) : fineR (ofQ q) = !(ofQ q).bad := by
  cases h : okR q
  · rw [ofQ_no h]; rfl
  · rw [ofQ_fine, h, ofQ_ok h]; rfl
theorem add_bad9 (a b : Fr) : fineR (addR a b) = !(addR a b).bad := by
  unfold addR
  split
  · exact ofQ_bad9 _
  · rfl
theorem sub_bad9 (a b : Fr) : fineR (subR a b) = !(subR a b).bad := by
  unfold subR
  split
  · exact ofQ_bad9 _
  · rfl
theorem one9 (i j : Nat) : toQ (wholeF (unitI i j)) = if i = j then 1 else 0 := by
  unfold unitI
  by_cases e : i = j
  · rw [if_pos e, if_pos e, whole_it ⟨by decide, by decide⟩]
    exact toQ_whole 1
  · rw [if_neg e, if_neg e, whole_it ⟨by decide, by decide⟩]
    exact toQ_whole 0
/-- X as the standard form has it. -/
theorem std_x {X u e a : Fr} (h1 : (addR X (divR (mulR u e) a)).bad = false) (h2 : (addR X (mulR (divR u a) e)).bad = false) : addR X (divR (mulR u e) a) = addR X (mulR (divR u a) e) := by
  have f1 : fineR (addR X (divR (mulR u e) a)) = true := by rw [add_bad9, h1]; rfl
  have f2 : fineR (addR X (mulR (divR u a) e)) = true := by rw [add_bad9, h2]; rfl
  obtain ⟨_, g1, e1⟩ := add_q f1
  obtain ⟨_, g2, e2⟩ := add_q f2
  obtain ⟨k1, _, ne, e3⟩ := div_q g1
  obtain ⟨_, _, e4⟩ := mul_q k1
  obtain ⟨k2, _, e5⟩ := mul_q g2
  obtain ⟨_, _, _, e6⟩ := div_q k2
  refine fr_eq f1 f2 ?_
  rw [e1, e2, e3, e4, e5, e6]
  grind
/-- P as the standard form has it. -/
theorem std_p {n : Nat} {p : Nat → Nat → Fr} {h : Nat → Fr} {r : Fr} {i k : Nat} (hi : i < n) (hk : k < n) (hp : ∀ a b, a < n → b < n → toQ (p a b) = toQ (p b a))
    (h1 : (subR (p i k) (divR (mulR (appJ kdF n p h i) (appJ kdF n p h k)) (spreadJ kdF n p h r))).bad = false) (h2 : (upPJ kdF (fun i j => wholeF (unitI i j)) n p h r i k).bad = false) :
    subR (p i k) (divR (mulR (appJ kdF n p h i) (appJ kdF n p h k)) (spreadJ kdF n p h r)) = upPJ kdF (fun i j => wholeF (unitI i j)) n p h r i k := by
  have f1 : fineR (subR (p i k) (divR (mulR (appJ kdF n p h i) (appJ kdF n p h k)) (spreadJ kdF n p h r))) = true := by rw [sub_bad9, h1]; rfl
  have f2 : fineR (upPJ kdF (fun i j => wholeF (unitI i j)) n p h r i k) = true := by
    have e : fineR (upPJ kdF (fun i j => wholeF (unitI i j)) n p h r i k) = !(upPJ kdF (fun i j => wholeF (unitI i j)) n p h r i k).bad := add_bad9 _ _
    rw [e, h2]
    rfl
  have U := up_q hi hk (one9) hp f2
  obtain ⟨_, g1, e1⟩ := sub_q f1
  obtain ⟨k1, _, _, e2⟩ := div_q g1
  obtain ⟨_, _, e3⟩ := mul_q k1
  exact fr_eq f1 f2 (by rw [e1, e2, e3, U.ez])
/-- Two updates, whichever comes first. -/
theorem two9 {n : Nat} {p : Nat → Nat → Fr} {g h : Nat → Fr} {r : Fr} {i k : Nat} (hi : i < n) (hk : k < n) (hp : ∀ a b, a < n → b < n → toQ (p a b) = toQ (p b a))
    (h1 : (upPJ kdF (fun i j => wholeF (unitI i j)) n (upPJ kdF (fun i j => wholeF (unitI i j)) n p g r) h r i k).bad = false) (h2 : (upPJ kdF (fun i j => wholeF (unitI i j)) n (upPJ kdF (fun i j => wholeF (unitI i j)) n p h r) g r i k).bad = false) :
    upPJ kdF (fun i j => wholeF (unitI i j)) n (upPJ kdF (fun i j => wholeF (unitI i j)) n p g r) h r i k = upPJ kdF (fun i j => wholeF (unitI i j)) n (upPJ kdF (fun i j => wholeF (unitI i j)) n p h r) g r i k := by
  have F : ∀ (q : Nat → Nat → Fr) (y : Nat → Fr), fineR (upPJ kdF (fun i j => wholeF (unitI i j)) n q y r i k) = !(upPJ kdF (fun i j => wholeF (unitI i j)) n q y r i k).bad := fun q y => add_bad9 _ _
  exact two_q hi hk one9 hp (by rw [F, h1]; rfl) (by rw [F, h2]; rfl)
theorem sq_sym9 {n : Nat} (g : Nat → Nat → Fr) (a b : Nat) : squareJ kdF n g a b = squareJ kdF n g b a := by
  unfold squareJ mirM
  rw [Nat.max_comm, Nat.min_comm]
end Go.Proofs.Ythnadgbloamlaaa

/- What the document fixes of some fractions: awake (layer 4). -/
namespace Go.Proofs.Ythnadgbloamlaaa
open Go.RowKit
set_option linter.unusedSimpArgs false
set_option linter.unusedVariables false

theorem newR_pos (n d : Int) (hn : gvB n = true) (hd : gvB d = true) (h : 0 < d) (g : Int) (hg : (Int.gcd n d : Int) = g) (h2 : smB (n.tdiv g) = true) (h3 : smB (d.tdiv g) = true) : newR n d = ⟨n.tdiv g, d.tdiv g, false⟩ := by
  unfold newR
  rw [hn, hd, lowR_pos n d h g hg.symm, h2, h3]
  rfl
theorem new24 : newR 2 (-4) = ⟨-1, 2, false⟩ := by
  unfold newR
  rw [lowR_neg 2 (-4) (by decide)]
  exact newR_pos (-2) 4 (by decide) (by decide) (by decide) 2 (by decide) (by decide) (by decide)
theorem new49 : newR 4 9 = ⟨4, 9, false⟩ := newR_pos 4 9 (by decide) (by decide) (by decide) 1 (by decide) (by decide) (by decide)
theorem new12 : newR 1 2 = ⟨1, 2, false⟩ := newR_pos 1 2 (by decide) (by decide) (by decide) 1 (by decide) (by decide) (by decide)
theorem new13 : newR 1 3 = ⟨1, 3, false⟩ := newR_pos 1 3 (by decide) (by decide) (by decide) 1 (by decide) (by decide) (by decide)
theorem newm12 : newR (-1) 2 = ⟨-1, 2, false⟩ := newR_pos (-1) 2 (by decide) (by decide) (by decide) 1 (by decide) (by decide) (by decide)
theorem add56 : addR ⟨1, 2, false⟩ ⟨1, 3, false⟩ = ⟨5, 6, false⟩ := by
  rw [← addX_eq]
  exact (lowR_pos 5 6 (by decide) 1 (by decide)).trans rfl
theorem mul49 : mulR ⟨2, 3, false⟩ ⟨2, 3, false⟩ = ⟨4, 9, false⟩ := by
  rw [← mulX_eq]
  exact (lowR_pos 4 9 (by decide) 1 (by decide)).trans rfl
theorem rt4 : flR 4 = 2 := by unfold flR; rw [if_neg (by decide)]; exact (root_one 4 2 (by decide) (by decide) (by decide)).symm
theorem rt9 : flR 9 = 3 := by unfold flR; rw [if_neg (by decide)]; exact (root_one 9 3 (by decide) (by decide) (by decide)).symm
theorem root49 : rootR ⟨4, 9, false⟩ = ⟨2, 3, false⟩ := by
  have t : tryR ⟨4, 9, false⟩ = ⟨2, 3, false⟩ := by unfold tryR; rw [rt4, rt9]
  unfold rootR
  rw [t, mul49]
  rfl
theorem sg12 : signR ⟨-1, 2, false⟩ = -1 := rfl
theorem fn12 : fineR ⟨1, 2, false⟩ = true := rfl

theorem field_badR (x y b : Value) (w : World) : (Instr.field 35 (.agg #[x, y, b]) 2).run Try.prog w = .ok b w := by kernel_rfl
end Go.Proofs.Ythnadgbloamlaaa

/- The walk of JosephStandard. Our own tool writes it. -/
namespace Go.Proofs.Ythnadgbloamlaaa
open Go.RowKit
set_option linter.unusedSimpArgs false
set_option linter.unusedVariables false

theorem sub_eq9 {a b c : Fr} (h : c = subR a b) (u : World) : Calls Try.prog 13 #[frV a, frV b] u fun e w' => e = .returned (frV c) ∧ Bl u w' := by
  subst h
  exact rsub_any a b u
theorem add_eq9 {a b c : Fr} (h : c = addR a b) (u : World) : Calls Try.prog 15 #[frV a, frV b] u fun e w' => e = .returned (frV c) ∧ Bl u w' := by
  subst h
  exact radd_any a b u
theorem mul_eq9 {a b c : Fr} (h : c = mulR a b) (u : World) : Calls Try.prog 16 #[frV a, frV b] u fun e w' => e = .returned (frV c) ∧ Bl u w' := by
  subst h
  exact rmul_any a b u
theorem div_eq9 {a b c : Fr} (h : c = divR a b) (u : World) : Calls Try.prog 17 #[frV a, frV b] u fun e w' => e = .returned (frV c) ∧ Bl u w' := by
  subst h
  exact rdiv_any a b u
theorem dot_lin9 {n : Nat} {p q : Option Addr} {c d : Nat} {x y : Nat → Fr} {s : Fr} (hs : s = dotF (linJ n x) (linJ n y)) (u : World) (hx : Rw 3 cellsF u (.slice p n c) (linJ n x)) (hy : Rw 3 cellsF u (.slice q n d) (linJ n y)) (hn : n ≤ 1000000) : Calls Try.prog 14 #[.slice p n c, .slice q n d] u fun e w' => e = .returned (frV s) ∧ Bl u w' := by
  subst hs
  exact vDotF _ _ _ _ u hx.q hy.q (by rw [linJ_len]; exact hn) (by rw [linJ_len]; exact hn)
theorem at_eq9 {R C : Nat} {p : Option Addr} {n cap : Nat} {f : Nat → Nat → Fr} {i k : Nat} {x : Fr} (hx : x = f i k) (u : World) (h : Mx 3 cellsF u R C p n cap f) (hi : i < R) (hk : k < C) : Calls Try.prog 18 #[mV R C p n cap, .int .i64 i, .int .i64 k] u fun e w' => e = .returned (frV x) ∧ Bl u w' := by
  subst hx
  exact mAtF R C p n cap f u h i k hi hk
theorem surp_eq9 (n : Nat) (x h : Nat → Fr) (z : Fr) : surpJ kdF n x h z = subR z (dotF (linJ n h) (linJ n x)) := rfl
theorem spread_eq9 (n : Nat) (p : Nat → Nat → Fr) (h : Nat → Fr) (r : Fr) : spreadJ kdF n p h r = addR (dotF (linJ n h) (linJ n (appJ kdF n p h))) r := rfl
theorem std_xkey9 {X u e a : Fr} : (addR X (divR (mulR u e) a)).bad = true ∨ (addR X (mulR (divR u a) e)).bad = true ∨ addR X (divR (mulR u e) a) = addR X (mulR (divR u a) e) := by
  cases h1 : (addR X (divR (mulR u e) a)).bad
  · cases h2 : (addR X (mulR (divR u a) e)).bad
    · exact .inr (.inr (std_x h1 h2))
    · exact .inr (.inl rfl)
  · exact .inl rfl
theorem std_pkey9 {n : Nat} {p : Nat → Nat → Fr} {h : Nat → Fr} {r : Fr} {i k : Nat} (hi : i < n) (hk : k < n) (hp : ∀ a b, a < n → b < n → toQ (p a b) = toQ (p b a)) :
    (subR (p i k) (divR (mulR (appJ kdF n p h i) (appJ kdF n p h k)) (spreadJ kdF n p h r))).bad = true ∨ (upPJ kdF (fun i j => wholeF (unitI i j)) n p h r i k).bad = true ∨
      subR (p i k) (divR (mulR (appJ kdF n p h i) (appJ kdF n p h k)) (spreadJ kdF n p h r)) = upPJ kdF (fun i j => wholeF (unitI i j)) n p h r i k := by
  cases h1 : (subR (p i k) (divR (mulR (appJ kdF n p h i) (appJ kdF n p h k)) (spreadJ kdF n p h r))).bad
  · cases h2 : (upPJ kdF (fun i j => wholeF (unitI i j)) n p h r i k).bad
    · exact .inr (.inr (std_p hi hk hp h1 h2))
    · exact .inr (.inl rfl)
  · exact .inl rfl
set_option maxRecDepth 100000 in
set_option maxHeartbeats 16000000 in
theorem walk_JosephStandard (n r z : Int) (vx vr vf vg vh : Value) (X Ro Fm Gm H : List Int) (w : World) (hX : Rq 1 cI w vx X) (hR : Rq 1 cI w vr Ro) (hF : Rq 1 cI w vf Fm) (hG : Rq 1 cI w vg Gm) (hH : Rq 1 cI w vh H) :
    Calls Try.prog 3 #[.agg #[.int .i64 n, vx, vr, vf, vg, vh, .int .i64 r, .int .i64 z]] w fun e w' => e = .returned (.bool true) ∧ Bl w w' := by
  have fm : Try.prog.follows .mixedOrders = true := by kernel_rfl
  have egW := enters_of Try.func9 (by kernel_rfl) rfl
  have egU := enters_of Try.func10 (by kernel_rfl) rfl
  have egQ := enters_of Try.func11 (by kernel_rfl) rfl
  have egS := enters_of Try.func8 (by kernel_rfl) rfl
  have egT := enters_of Try.func18 (by kernel_rfl) rfl
  have egU2 := enters_of Try.func16 (by kernel_rfl) rfl
  have egV := enters_of Try.func17 (by kernel_rfl) rfl
  have egB := enters_of Try.func13 (by kernel_rfl) rfl
  have egA := enters_of Try.func15 (by kernel_rfl) rfl
  have egD := enters_of Try.func14 (by kernel_rfl) rfl
  have AW := hideP awake9_any
  obtain ⟨px, cx, rfl, _, _⟩ := hX.cut
  obtain ⟨pr, cr, rfl, _, _⟩ := hR.cut
  obtain ⟨pf, cf, rfl, _, _⟩ := hF.cut
  obtain ⟨pg, cg, rfl, _, _⟩ := hG.cut
  obtain ⟨ph, ch, rfl, _, _⟩ := hH.cut
  obtain ⟨lx, hlx⟩ : ∃ l, l = X.length := ⟨_, rfl⟩
  obtain ⟨lr, hlr⟩ : ∃ l, l = Ro.length := ⟨_, rfl⟩
  obtain ⟨lf, hlf⟩ : ∃ l, l = Fm.length := ⟨_, rfl⟩
  obtain ⟨lg, hlg⟩ : ∃ l, l = Gm.length := ⟨_, rfl⟩
  obtain ⟨lh, hlh⟩ : ∃ l, l = H.length := ⟨_, rfl⟩
  rw [← hlx] at hX
  rw [← hlr] at hR
  rw [← hlf] at hF
  rw [← hlg] at hG
  rw [← hlh] at hH
  rw [← hlx, ← hlr, ← hlf, ← hlg, ← hlh]
  obtain ⟨W, hW⟩ : ∃ W, W = w.alloc (.cells #[.int .i64 n, .slice px lx cx, .slice pr lr cr, .slice pf lf cf, .slice pg lg cg, .slice ph lh ch, .int .i64 r, .int .i64 z] 24) := ⟨_, rfl⟩
  have b0 : Bl w W := by rw [hW]; exact (Bl.refl _).alloc _
  have lt0 : w.heap.size < W.heap.size := by rw [hW]; simp
  have HC := hideP (show ∀ u, Bl W u → u.cell? ⟨w.heap.size, 0, none⟩ = some (.int .i64 n) ∧ u.cell? ⟨w.heap.size, 1, none⟩ = some (.slice px lx cx) ∧ u.cell? ⟨w.heap.size, 2, none⟩ = some (.slice pr lr cr) ∧ u.cell? ⟨w.heap.size, 3, none⟩ = some (.slice pf lf cf) ∧ u.cell? ⟨w.heap.size, 4, none⟩ = some (.slice pg lg cg) ∧ u.cell? ⟨w.heap.size, 5, none⟩ = some (.slice ph lh ch) ∧ u.cell? ⟨w.heap.size, 6, none⟩ = some (.int .i64 r) ∧ u.cell? ⟨w.heap.size, 7, none⟩ = some (.int .i64 z) from fun u hu => by
    refine ⟨?_, ?_, ?_, ?_, ?_, ?_, ?_, ?_⟩ <;> (rw [bl_cell hu _ _ lt0, hW]; simp [go_sem]))
  have FE := hideP (few9_any n r z px pr pf pg ph lx cx lr cr lf cf lg cg lh ch X Ro Fm Gm H W (hX.later b0) (hR.later b0) (hF.later b0) (hG.later b0) (hH.later b0) hlx.symm hlr.symm hlf.symm hlg.symm hlh.symm)
  have HW := hideP hW
  have HXR0 := hideP hX
  have HHR0 := hideP hH
  have HRR := hideP hR
  have HFR := hideP hF
  have HGR := hideP hG
  have hlx' := hideP hlx.symm
  have hlr' := hideP hlr.symm
  have hlf' := hideP hlf.symm
  have hlg' := hideP hlg.symm
  have hlh' := hideP hlh.symm
  clear hW hX hR hF hG hH hlx hlr hlf hlg hlh
  go_enter Try.func3, Try.ntmps3
  go_wp2_with fail
  rw [← HW.out]
  refine FE.out.mono ?_
  rintro e w1 ⟨b1, rfl, hb1, h1⟩
  clear FE
  cases b1 with
  | false =>
    go_wp2_with fail
    refine (AW.out _).mono ?_
    rintro e w99 ⟨rfl, h99⟩
    go_wp2
    go_ret
    exact ⟨rfl, (b0.trans h1).trans h99⟩
  | true =>
    obtain ⟨m, rfl, fw⟩ := hb1 rfl
    clear hb1
    obtain ⟨N, hN⟩ : ∃ N, N = m * m := ⟨_, rfl⟩
    obtain rfl : lx = m := by rw [← hlx'.out]; exact fw.x
    obtain ⟨m, rfl⟩ : ∃ m, m = lx := ⟨_, rfl⟩
    obtain rfl : lh = m := by rw [← hlh'.out]; exact fw.h
    obtain ⟨m, rfl⟩ : ∃ m, m = lh := ⟨_, rfl⟩
    obtain rfl : lr = N := by rw [← hlr'.out, hN]; exact fw.ro
    obtain ⟨N, rfl⟩ : ∃ N, N = lr := ⟨_, rfl⟩
    obtain rfl : lf = N := by rw [← hlf'.out, hN]; exact fw.f
    obtain ⟨N, rfl⟩ : ∃ N, N = lf := ⟨_, rfl⟩
    obtain rfl : lg = N := by rw [← hlg'.out, hN]; exact fw.g
    obtain ⟨N, rfl⟩ : ∃ N, N = lg := ⟨_, rfl⟩
    have m1 := fw.m1
    have m3 := fw.m3
    have hm4 : m ≤ 4 := by omega
    have hN9 : N ≤ 9 := by rw [hN]; exact Nat.mul_le_mul m3 m3
    have mN : m ≤ N := by rw [hN]; exact Nat.le_mul_of_pos_left m m1
    have HNN := hideP hN
    have HD := hideP (dim_le4 m1 hm4)
    have HFW := hideP fw
    have HXR := hideP (show Rq 1 cI w (.slice px m cx) (linJ m fun i => X.getD i 0) from by rw [← linJ_of (n := m) 0 X hlx'.out]; exact HXR0.out)
    have HHR := hideP (show Rq 1 cI w (.slice ph m ch) (linJ m fun i => H.getD i 0) from by rw [← linJ_of (n := m) 0 H hlh'.out]; exact HHR0.out)
    have b1w : Bl W w1 := h1
    clear hN fw HHR0
    have ml6 : m ≤ 1000000 := by omega
    obtain ⟨Rr, hRr⟩ : ∃ x : Fr, x = newR r 1 := ⟨_, rfl⟩
    obtain ⟨Zz, hZz⟩ : ∃ x : Fr, x = newR z 1 := ⟨_, rfl⟩
    have HRr := hideP hRr
    have HZz := hideP hZz
    clear hRr hZz
    obtain ⟨c0, c1, c2, c3, c4, c5, c6, c7⟩ := HC.out w1 (b1w)
    have ST := hideP (start9_any m N r z px pr cx cr (.slice pf N cf) (.slice pg N cg) (.slice ph m ch) X Ro w1 rfl rfl rfl (HXR0.out.later (b0.trans b1w)) (HRR.out.later (b0.trans b1w)) hlx'.out hlr'.out m1 m3 HNN.out)
    go_wp2_with fail
    refine ST.out.mono ?_
    rintro e w2 ⟨q2, cq2, p2, c2', rfl, ⟨hR, hM⟩, h2⟩
    clear c0 c1 c2 c3 c4 c5 c6 c7
    obtain ⟨W2, hW2⟩ : ∃ W2, W2 = w2.alloc (.cells #[.slice q2 m cq2, .int .i64 m, .int .i64 m, .slice p2 N c2'] 31) := ⟨_, rfl⟩
    have b2 : Bl w2 W2 := by rw [hW2]; exact (Bl.refl _).alloc _
    have k2 : SBox W2 w2.heap.size q2 m cq2 m m p2 N c2' := by rw [hW2]; exact SBox.new w2 _ _ _ _ _ _ _ _ _
    have HR2 := hideP (hR.later b2)
    have HM2 := hideP (Mx.later hM b2)
    have b2w : Bl W W2 := b1w.trans (h2.trans b2)
    have B2 : Bl w W2 := b0.trans b2w
    have HW2 := hideP hW2
    clear hW2 hR hM ST
    obtain ⟨c0, c1, c2, c3, c4, c5, c6, c7⟩ := HC.out W2 (b2w)
    rw [HW2.out] at c0 c1 c2 c3 c4 c5 c6 c7
    have WHH := hideP (whole_linF ph m ch (fun i => H.getD i 0) W2 (HHR.out.later B2) (by omega))
    go_wp2_with fail
    rw [← HW2.out]
    refine WHH.out.mono ?_
    rintro e w3 ⟨qh, hc, rfl, hH, h3⟩
    clear c0 c1 c2 c3 c4 c5 c6 c7
    have HH3 := hideP hH
    have b23 : Bl W2 w3 := h3
    have b3w : Bl W w3 := b2w.trans b23
    clear hH WHH
    go_wp2_with fail
    refine (wpIn_wide (n := 8)).1 (region_u (updF_ok (m) (N) (upXJ kdF m (fun i => wholeF (X.getD i 0)) (squareJ kdF m (fun i k => wholeF (ofL m Ro i k))) (fun i => wholeF (H.getD i 0)) Rr Zz) (upPJ kdF (fun i j => wholeF (unitI i j)) m (squareJ kdF m (fun i k => wholeF (ofL m Ro i k))) (fun i => wholeF (H.getD i 0)) Rr) (surpJ kdF m (fun i => wholeF (X.getD i 0)) (fun i => wholeF (H.getD i 0)) Zz) (spreadJ kdF m (squareJ kdF m (fun i k => wholeF (ofL m Ro i k))) (fun i => wholeF (H.getD i 0)) Rr)) fm [some 26, some 27, some 28, some 29, some 30, some 31, some 32, some 33, some 34, some 25, some 35, some 36, some 37, some 5, some 6, none, none, some 7] 8 (by kernel_rfl) (by rfl) 34 25 35 36 37 5 6 7 rfl
          (fun j v u => match j with | 0 => v = sJ q2 m cq2 m m p2 N c2' | 1 => v = .slice qh m hc | 2 => v = .pointer (some ⟨w.heap.size, 6, none⟩) | 3 => v = .int .i64 r | 4 => v = frV Rr | 5 => v = .pointer (some ⟨w.heap.size, 7, none⟩) | 6 => v = .int .i64 z | 7 => v = frV Zz | _ => False)
          (by
            intro j v u u' hb h
            split at h <;> first | exact h | (obtain ⟨q, c, e, h1⟩ := h; exact ⟨q, c, e, h1.later hb⟩) | (obtain ⟨g, e, h1⟩ := h; exact ⟨g, e, h1.later hb⟩)) ?step ?call ?mv ?x0 ?x1 ?x2 ?la ?lb ?sa ?sb ?asg ?fin)
    case step =>
      intro j o t act u hjk ho hdt hsz hu hfr hin
      obtain ⟨c0, c1, c2, c3, c4, c5, c6, c7⟩ := HC.out _ (b3w.trans hu)
      rcases (by omega : j = 0 ∨ j = 1 ∨ j = 2 ∨ j = 3 ∨ j = 4 ∨ j = 5 ∨ j = 6 ∨ j = 7) with rfl | rfl | rfl | rfl | rfl | rfl | rfl | rfl
      · simp only [List.getElem?_toArray, List.getElem?_cons_zero, List.getElem?_cons_succ, Option.some.injEq] at ho
        subst ho
        obtain rfl := Option.some.inj hdt
        have i3 : act.eval (.tmp (3 : Nat)) = .pointer (some ⟨w2.heap.size, 0, none⟩) := hfr 3 (by decide)
        obtain ⟨s0, s1, s2, s3, _, _, _, _, _⟩ := k2.later (b23.trans hu)
        exact plain_wp (by intro c h; cases h) (fun _ _ => trivial) (by simp only [execOp, i3, evalC, evalF, evalG]; simp [go_sem, s0, s1, s2, s3]) ⟨_, rfl, rfl, Bl.refl _⟩
      · simp only [List.getElem?_toArray, List.getElem?_cons_zero, List.getElem?_cons_succ, Option.some.injEq] at ho
        subst ho
        obtain rfl := Option.some.inj hdt
        have i4 : act.eval (.tmp (4 : Nat)) = .slice qh m hc := hfr 4 (by decide)
        exact plain_wp (by intro c h; cases h) (fun _ _ => trivial) (by simp only [execOp, i4, evalC, evalF, evalG]; simp [go_sem, c6]) ⟨_, rfl, rfl, Bl.refl _⟩
      · simp only [List.getElem?_toArray, List.getElem?_cons_zero, List.getElem?_cons_succ, Option.some.injEq] at ho
        subst ho
        obtain rfl := Option.some.inj hdt
        have i1 : act.eval (.tmp (1 : Nat)) = .pointer (some ⟨w.heap.size, 0, none⟩) := hfr 1 (by decide)
        exact plain_wp (by intro c h; cases h) (fun _ _ => trivial) (by simp only [execOp, i1, evalC, evalF, evalG]; simp [go_sem, c6]) ⟨_, rfl, rfl, Bl.refl _⟩
      · simp only [List.getElem?_toArray, List.getElem?_cons_zero, List.getElem?_cons_succ, Option.some.injEq] at ho
        subst ho
        obtain rfl := Option.some.inj hdt
        have i28 : (act.eval (.tmp (28 : Nat))) = .pointer (some ⟨w.heap.size, 6, none⟩) := hin ⟨2, .data⟩ (by simp) rfl 28 rfl
        exact plain_wp (by intro c h; cases h) (fun _ _ => trivial) (by simp only [execOp, i28, evalC, evalF, evalG]; simp [go_sem, c6]) ⟨_, rfl, rfl, Bl.refl _⟩
      · simp only [List.getElem?_toArray, List.getElem?_cons_zero, List.getElem?_cons_succ, Option.some.injEq] at ho
        subst ho
        obtain rfl := Option.some.inj hdt
        have i29 : (act.eval (.tmp (29 : Nat))) = .int .i64 r := hin ⟨3, .data⟩ (by simp) rfl 29 rfl
        refine enter_wp 11 #[.int .i64 r, .int .i64 1] (by intro c h; cases h) (fun _ _ => trivial) (by simp only [execOp, evalC, evalF, evalG, resolve, i29, evalC, List.map_toArray, List.map_cons, List.map_nil]; simp [invoke, egQ, Result.andThen, go_sem]) (by intro h; cases h) (callsIn_wide.2 (new_any r 1 u)) ?_
        rintro e w' ⟨rfl, hb⟩
        exact ⟨_, rfl, _, rfl, show frV (newR r 1) = frV Rr from by rw [HRr.out], hb⟩
      · simp only [List.getElem?_toArray, List.getElem?_cons_zero, List.getElem?_cons_succ, Option.some.injEq] at ho
        subst ho
        obtain rfl := Option.some.inj hdt
        have i1 : act.eval (.tmp (1 : Nat)) = .pointer (some ⟨w.heap.size, 0, none⟩) := hfr 1 (by decide)
        exact plain_wp (by intro c h; cases h) (fun _ _ => trivial) (by simp only [execOp, i1, evalC, evalF, evalG]; simp [go_sem, c7]) ⟨_, rfl, rfl, Bl.refl _⟩
      · simp only [List.getElem?_toArray, List.getElem?_cons_zero, List.getElem?_cons_succ, Option.some.injEq] at ho
        subst ho
        obtain rfl := Option.some.inj hdt
        have i31 : (act.eval (.tmp (31 : Nat))) = .pointer (some ⟨w.heap.size, 7, none⟩) := hin ⟨5, .data⟩ (by simp) rfl 31 rfl
        exact plain_wp (by intro c h; cases h) (fun _ _ => trivial) (by simp only [execOp, i31, evalC, evalF, evalG]; simp [go_sem, c7]) ⟨_, rfl, rfl, Bl.refl _⟩
      · simp only [List.getElem?_toArray, List.getElem?_cons_zero, List.getElem?_cons_succ, Option.some.injEq] at ho
        subst ho
        obtain rfl := Option.some.inj hdt
        have i32 : (act.eval (.tmp (32 : Nat))) = .int .i64 z := hin ⟨6, .data⟩ (by simp) rfl 32 rfl
        refine enter_wp 11 #[.int .i64 z, .int .i64 1] (by intro c h; cases h) (fun _ _ => trivial) (by simp only [execOp, evalC, evalF, evalG, resolve, i32, evalC, List.map_toArray, List.map_cons, List.map_nil]; simp [invoke, egQ, Result.andThen, go_sem]) (by intro h; cases h) (callsIn_wide.2 (new_any z 1 u)) ?_
        rintro e w' ⟨rfl, hb⟩
        exact ⟨_, rfl, _, rfl, show frV (newR z 1) = frV Zz from by rw [HZz.out], hb⟩
    case call =>
      intro o act u ho hsz hu hfr hin
      obtain ⟨c0, c1, c2, c3, c4, c5, c6, c7⟩ := HC.out _ (b3w.trans hu)
      simp only [List.getElem?_toArray, List.getElem?_cons_zero, List.getElem?_cons_succ, Option.some.injEq, Nat.reduceAdd] at ho
      subst ho
      have i26 : (act.eval (.tmp (26 : Nat))) = sJ q2 m cq2 m m p2 N c2' := hin ⟨0, .data⟩ (by simp) rfl 26 rfl
      have i27 : (act.eval (.tmp (27 : Nat))) = .slice qh m hc := hin ⟨1, .data⟩ (by simp) rfl 27 rfl
      have i30 : (act.eval (.tmp (30 : Nat))) = frV Rr := hin ⟨4, .data⟩ (by simp) rfl 30 rfl
      have i33 : (act.eval (.tmp (33 : Nat))) = frV Zz := hin ⟨7, .data⟩ (by simp) rfl 33 rfl
      refine enter_wp 10 #[sJ q2 m cq2 m m p2 N c2', .slice qh m hc, frV Rr, frV Zz] (by intro c h; cases h) (fun _ _ => trivial) (by simp only [execOp, evalC, evalF, evalG, resolve, i26, i27, i30, i33, List.map_toArray, List.map_cons, List.map_nil]; simp [invoke, egU, Result.andThen, go_sem]) (by intro h; cases h) (callsIn_wide.2 (jUpdateF m N q2 cq2 (fun i => wholeF (X.getD i 0)) p2 c2' (squareJ kdF m (fun i k => wholeF (ofL m Ro i k))) qh hc (fun i => wholeF (H.getD i 0)) Rr Zz u (HR2.out.later (b23.trans hu)).q (HM2.out.later (b23.trans hu)) (HH3.out.later hu).q hm4)) ?_
      rintro e w' ⟨q, c, p', c', rfl, ⟨hR, hM, hF1, hF2⟩, hb⟩
      exact ⟨_, rfl, (q, c, p', c'), rfl, ⟨hR, hM⟩, hb, fun b hb' _ => ⟨fun g hg => by have := hF1 g hg; omega, fun g hg => by have := hF2 g hg; omega⟩⟩
    case mv =>
      intro o act u x ho hx
      simp only [List.getElem?_toArray, List.getElem?_cons_zero, List.getElem?_cons_succ, Option.some.injEq, Nat.reduceAdd] at ho
      subst ho
      exact plain_wp (by intro c h; cases h) (fun _ _ => trivial) (by simp only [execOp, hx]; simp [go_sem]) ⟨rfl, rfl⟩
    case x0 =>
      intro o act u x y z ho hx
      simp only [List.getElem?_toArray, List.getElem?_cons_zero, List.getElem?_cons_succ, Option.some.injEq, Nat.reduceAdd] at ho
      subst ho
      exact plain_wp (by intro c h; cases h) (fun _ _ => trivial) (by simp only [execOp, hx]; simp [go_sem]) ⟨rfl, rfl⟩
    case x1 =>
      intro o act u x y z ho hx
      simp only [List.getElem?_toArray, List.getElem?_cons_zero, List.getElem?_cons_succ, Option.some.injEq, Nat.reduceAdd] at ho
      subst ho
      exact plain_wp (by intro c h; cases h) (fun _ _ => trivial) (by simp only [execOp, hx]; simp [go_sem]) ⟨rfl, rfl⟩
    case x2 =>
      intro o act u x y z ho hx
      simp only [List.getElem?_toArray, List.getElem?_cons_zero, List.getElem?_cons_succ, Option.some.injEq, Nat.reduceAdd] at ho
      subst ho
      exact plain_wp (by intro c h; cases h) (fun _ _ => trivial) (by simp only [execOp, hx]; simp [go_sem]) ⟨rfl, rfl⟩
    case la =>
      intro o act u ho
      simp only [List.getElem?_toArray, List.getElem?_cons_zero, List.getElem?_cons_succ, Option.some.injEq, Nat.reduceAdd] at ho
      subst ho
      exact plain_wp (by intro c h; cases h) (fun _ _ => trivial) (w' := u.alloc (.cells #[.slice none 0 0, .int .i64 0, .int .i64 0, .slice none 0 0] 31)) (v := .pointer (some ⟨u.heap.size, 0, none⟩)) (by simp only [execOp]; simp [go_sem]) ⟨rfl, SBox.new u _ _ _ _ _ _ _ _ _, (Bl.refl _).alloc _, by simp⟩
    case lb =>
      intro o act u ho
      simp only [List.getElem?_toArray, List.getElem?_cons_zero, List.getElem?_cons_succ, Option.some.injEq, Nat.reduceAdd] at ho
      subst ho
      exact plain_wp (by intro c h; cases h) (fun _ _ => trivial) (w' := u.alloc (.cells #[.int .i64 0, .int .i64 0, .bool false, .int .i64 0, .int .i64 0, .bool false] 37)) (v := .pointer (some ⟨u.heap.size, 0, none⟩)) (by simp only [execOp]; simp [go_sem]) ⟨rfl, NBoxF.new u zeroR zeroR _, (Bl.refl _).alloc _, by simp⟩
    case sa =>
      intro o act u D b ho hA h0 hz hdat hoff hbl hb
      simp only [List.getElem?_toArray, List.getElem?_cons_zero, List.getElem?_cons_succ, Option.some.injEq, Nat.reduceAdd] at ho
      subst ho
      obtain ⟨q0, c0, p0, c1⟩ := D
      replace h0 : act.eval (.tmp 35) = sJ q0 (m) c0 (m) (m) p0 (N) c1 := h0
      obtain ⟨d0, d1, d2, d3, g0, g1, g2, g3, lt⟩ := (show SBox u b none 0 0 0 0 none 0 0 from hz)
      exact skip_wp (by intro c h; cases h) (fun _ _ => trivial) (by simp only [execOp, hA, h0]; simp [go_sem, d0, d1, d2, d3, g0, g1, g2, g3]) ⟨rfl, SBox.fill (show SBox u b none 0 0 0 0 none 0 0 from hz) _ _ _ _ _ _ _ _, ⟨hdat.1.but (but4F _ _ _ _ _ _) (fun g hg => hoff.1 g hg), hdat.2.but (but4F _ _ _ _ _ _) (fun g hg => hoff.2 g hg)⟩, Bl.put4 hbl hb _ _ _ _, fun b' h' => heap4F _ h' _ _ _ _, by simp⟩
    case sb =>
      intro o act u D b ho hA h0 hz hdat hoff hbl hb
      simp only [List.getElem?_toArray, List.getElem?_cons_zero, List.getElem?_cons_succ, Option.some.injEq, Nat.reduceAdd] at ho
      subst ho
      obtain ⟨q0, c0, p0, c1⟩ := D
      replace h0 : act.eval (.tmp 36) = newsVF (surpJ kdF m (fun i => wholeF (X.getD i 0)) (fun i => wholeF (H.getD i 0)) Zz) (spreadJ kdF m (squareJ kdF m (fun i k => wholeF (ofL m Ro i k))) (fun i => wholeF (H.getD i 0)) Rr) := h0
      obtain ⟨d0, d1, d2, d3, d4, d5, g0, g1, g2, g3, g4, g5, lt⟩ := (show NBoxF u b zeroR zeroR from hz)
      exact skip_wp (by intro c h; cases h) (fun _ _ => trivial) (by simp only [execOp, hA, h0]; simp [go_sem, d0, d1, d2, d3, d4, d5, g0, g1, g2, g3, g4, g5]) ⟨rfl, NBoxF.fill (show NBoxF u b zeroR zeroR from hz) _ _, ⟨hdat.1.but (butNF _ _ _ _) (fun g hg => hoff.1 g hg), hdat.2.but (butNF _ _ _ _) (fun g hg => hoff.2 g hg)⟩, blNF b hbl hb _ _, fun b' h' => heapNF _ h' _ _, by simp⟩
    case asg =>
      intro o act u x ho hx
      simp only [List.getElem?_toArray, List.getElem?_cons_zero, List.getElem?_cons_succ, Option.some.injEq, Nat.reduceAdd] at ho
      subst ho
      exact plain_wp (by intro c h; cases h) (fun _ _ => trivial) (by simp only [execOp, hx]; simp [go_sem]) ⟨rfl, rfl⟩
    case fin =>
      intro vs u D b5 n5' hu e9' e5' e6' hb1 hb2 hsa hsb hdat
      simp only [putL, Act.put, List.setIfInBounds_toArray, List.set_cons_zero, List.set_cons_succ, Nat.zero_add, Nat.reduceAdd] at e9' e5' e6' ⊢
      replace e9' := Eq.trans e9' (show _ = Value.bool true from rfl)
      simp only [e9', e5', e6']
      obtain ⟨q5, cq5, p5, c5'⟩ := D
      obtain ⟨w5, rfl⟩ : ∃ w5, w5 = u := ⟨_, rfl⟩
      have k5 : SBox w5 b5 q5 m cq5 m m p5 N c5' := hsa
      have n5 : NBoxF w5 n5' (surpJ kdF m (fun i => wholeF (X.getD i 0)) (fun i => wholeF (H.getD i 0)) Zz) (spreadJ kdF m (squareJ kdF m (fun i k => wholeF (ofL m Ro i k))) (fun i => wholeF (H.getD i 0)) Rr) := hsb
      have HD5 : Rw 3 cellsF w5 (.slice q5 m cq5) (linJ m (upXJ kdF m (fun i => wholeF (X.getD i 0)) (squareJ kdF m (fun i k => wholeF (ofL m Ro i k))) (fun i => wholeF (H.getD i 0)) Rr Zz)) ∧ Mx 3 cellsF w5 m m p5 N c5' (upPJ kdF (fun i j => wholeF (unitI i j)) m (squareJ kdF m (fun i k => wholeF (ofL m Ro i k))) (fun i => wholeF (H.getD i 0)) Rr) := hdat
      have HM5 := hideP HD5.2
      obtain ⟨gt, ot, hgt, CXT⟩ := rw_cells9F HD5.1 (by omega)
      have HGT := hideP hgt
      have HCT := hideP CXT
      have b35 : Bl w3 w5 := hu
      have b25 : Bl W2 w5 := b23.trans b35
      have b5w : Bl W w5 := b2w.trans b25
      clear hsa hsb hdat HD5 hgt CXT
      obtain ⟨gx, ox, hgx, CXX⟩ := rw_cells9F HR2.out (by omega)
      have HGX := hideP hgx
      have HCX := hideP CXX
      clear hgx CXX
      have APP := hideP (mApplyF' m m p2 N c2' (squareJ kdF m (fun i k => wholeF (ofL m Ro i k))) qh hc (linJ m (fun i => wholeF (H.getD i 0))) w5 (HM2.out.later b25) (HH3.out.later b35).q (linJ_len _ _))
      obtain ⟨s0, s1, s2, s3, _, _, _, _, _⟩ := k2.later b25
      go_wp2_with fail
      refine APP.out.mono ?_
      rintro e w6 ⟨pu, uc, rfl, hRu, _, h6⟩
      have hRu' : Rw 3 cellsF w6 (.slice pu m uc) (linJ m (appJ kdF m (squareJ kdF m (fun i k => wholeF (ofL m Ro i k))) (fun i => wholeF (H.getD i 0)))) := hRu
      clear s0 s1 s2 s3 APP hRu
      obtain ⟨gu, ou, hgu, CXU⟩ := rw_cells9F hRu' (by omega)
      subst hgu
      have HU6 := hideP hRu'
      have HCU6 := hideP CXU
      clear hRu' CXU
      have b56 : Bl w5 w6 := h6
      have b26 : Bl W2 w6 := b25.trans b56
      have b36 : Bl w3 w6 := b35.trans b56
      have b6w : Bl W w6 := b2w.trans b26
      obtain ⟨c0, c1, c2, c3, c4, c5, c6, c7⟩ := HC.out w6 b6w
      obtain ⟨t0, t1, t2, t3, _, _, _, _, _⟩ := k5.later b56
      obtain ⟨dx, hdx⟩ : ∃ y, y = dotF (linJ m (fun i => wholeF (H.getD i 0))) (linJ m (fun i => wholeF (X.getD i 0))) := ⟨_, rfl⟩
      obtain ⟨E, hE⟩ : ∃ y, y = subR Zz dx := ⟨_, rfl⟩
      have HDX := hideP (fun u (hu : Bl w6 u) => dot_lin9 hdx u (HH3.out.later (b36.trans hu)) (HR2.out.later (b26.trans hu)) ml6)
      have HEE := hideP (fun u => sub_eq9 hE u)
      have HE := hideP (show E = surpJ kdF m (fun i => wholeF (X.getD i 0)) (fun i => wholeF (H.getD i 0)) Zz from by rw [hE, hdx, surp_eq9])
      rw [← HE.out] at n5
      clear hdx hE
      go_wp2_with fail
      clear c0 c1 c2 c3 c4 c5 c6 c7 t0 t1 t2 t3
      refine (wpIn_wide (n := 8)).1 (region_q fm [some 62, some 63, some 64, some 65, some 66, some 67, some 68, some 69, some 10, none] (fun _ => false) 9 (by kernel_rfl) (by rfl)
            (fun j v u => match j with | 0 => v = .pointer (some ⟨w.heap.size, 7, none⟩) | 1 => v = .int .i64 z | 2 => v = frV Zz | 3 => v = .slice qh m hc | 4 => v = .pointer (some ⟨w2.heap.size, 0, none⟩) | 5 => v = .slice q2 m cq2 | 6 => v = frV dx | 7 => v = frV E | 8 => ∃ b, v = .pointer (some ⟨b, 0, none⟩) ∧ w6.heap.size ≤ b ∧ FBox u b zeroR | _ => False)
            (by
              intro j v u u' hb h
              split at h <;> first | exact h | (obtain ⟨b, e, h1, h2⟩ := h; exact ⟨b, e, h1, h2.later hb⟩)) (fun vs u0 u => ∃ b, vs 8 = .pointer (some ⟨b, 0, none⟩) ∧ w6.heap.size ≤ b ∧ FBox u b E ∧ Bl w6 u) ?step ?still ?store ?fin)
      case step =>
        intro j o t act u ho hdt hpu hsz hu hfr hin
        have hj : j < 10 := (Array.getElem?_eq_some_iff.1 ho).1
        obtain ⟨c0, c1, c2, c3, c4, c5, c6, c7⟩ := HC.out _ (b6w.trans hu)
        obtain ⟨s0, s1, s2, s3, _, _, _, _, _⟩ := k2.later (b26.trans hu)
        rcases (by omega : j = 0 ∨ j = 1 ∨ j = 2 ∨ j = 3 ∨ j = 4 ∨ j = 5 ∨ j = 6 ∨ j = 7 ∨ j = 8 ∨ j = 9) with rfl | rfl | rfl | rfl | rfl | rfl | rfl | rfl | rfl | rfl
        · simp only [List.getElem?_toArray, List.getElem?_cons_zero, List.getElem?_cons_succ, Option.some.injEq] at ho
          subst ho
          obtain rfl := Option.some.inj hdt
          have i1 : act.eval (.tmp (1 : Nat)) = .pointer (some ⟨w.heap.size, 0, none⟩) := hfr 1 (by decide)
          exact plain_wp (by intro c h; cases h) (fun _ _ => trivial) (by simp only [execOp, i1, evalC, evalF, evalG]; simp [go_sem, c7]) ⟨_, rfl, rfl, Bl.refl _⟩
        · simp only [List.getElem?_toArray, List.getElem?_cons_zero, List.getElem?_cons_succ, Option.some.injEq] at ho
          subst ho
          obtain rfl := Option.some.inj hdt
          have i62 : (act.eval (.tmp (62 : Nat))) = .pointer (some ⟨w.heap.size, 7, none⟩) := hin ⟨0, .data⟩ (by simp) rfl 62 rfl
          exact plain_wp (by intro c h; cases h) (fun _ _ => trivial) (by simp only [execOp, i62, evalC, evalF, evalG]; simp [go_sem, c7]) ⟨_, rfl, rfl, Bl.refl _⟩
        · simp only [List.getElem?_toArray, List.getElem?_cons_zero, List.getElem?_cons_succ, Option.some.injEq] at ho
          subst ho
          obtain rfl := Option.some.inj hdt
          have i63 : (act.eval (.tmp (63 : Nat))) = .int .i64 z := hin ⟨1, .data⟩ (by simp) rfl 63 rfl
          refine enter_wp 11 #[.int .i64 z, .int .i64 1] (by intro c h; cases h) (fun _ _ => trivial) (by simp only [execOp, evalC, evalF, evalG, resolve, i63, evalC, List.map_toArray, List.map_cons, List.map_nil]; simp [invoke, egQ, Result.andThen, go_sem]) (by intro h; cases h) (callsIn_wide.2 (new_any z 1 u)) ?_
          rintro e w' ⟨rfl, hb⟩
          exact ⟨_, rfl, _, rfl, show frV (newR z 1) = frV Zz from by rw [HZz.out], hb⟩
        · simp only [List.getElem?_toArray, List.getElem?_cons_zero, List.getElem?_cons_succ, Option.some.injEq] at ho
          subst ho
          obtain rfl := Option.some.inj hdt
          have i4 : act.eval (.tmp (4 : Nat)) = .slice qh m hc := hfr 4 (by decide)
          exact plain_wp (by intro c h; cases h) (fun _ _ => trivial) (by simp only [execOp, i4, evalC, evalF, evalG]; simp [go_sem, c7]) ⟨_, rfl, rfl, Bl.refl _⟩
        · simp only [List.getElem?_toArray, List.getElem?_cons_zero, List.getElem?_cons_succ, Option.some.injEq] at ho
          subst ho
          obtain rfl := Option.some.inj hdt
          have i3 : act.eval (.tmp (3 : Nat)) = .pointer (some ⟨w2.heap.size, 0, none⟩) := hfr 3 (by decide)
          exact plain_wp (by intro c h; cases h) (fun _ _ => trivial) (by simp only [execOp, i3, evalC, evalF, evalG]; simp [go_sem, s0]) ⟨_, rfl, rfl, Bl.refl _⟩
        · simp only [List.getElem?_toArray, List.getElem?_cons_zero, List.getElem?_cons_succ, Option.some.injEq] at ho
          subst ho
          obtain rfl := Option.some.inj hdt
          have i66 : (act.eval (.tmp (66 : Nat))) = .pointer (some ⟨w2.heap.size, 0, none⟩) := hin ⟨4, .data⟩ (by simp) rfl 66 rfl
          exact plain_wp (by intro c h; cases h) (fun _ _ => trivial) (by simp only [execOp, i66, evalC, evalF, evalG]; simp [go_sem, s0]) ⟨_, rfl, rfl, Bl.refl _⟩
        · simp only [List.getElem?_toArray, List.getElem?_cons_zero, List.getElem?_cons_succ, Option.some.injEq] at ho
          subst ho
          obtain rfl := Option.some.inj hdt
          have i65 : (act.eval (.tmp (65 : Nat))) = .slice qh m hc := hin ⟨3, .data⟩ (by simp) rfl 65 rfl
          have i67 : (act.eval (.tmp (67 : Nat))) = .slice q2 m cq2 := hin ⟨5, .data⟩ (by simp) rfl 67 rfl
          refine enter_wp 14 #[.slice qh m hc, .slice q2 m cq2] (by intro c h; cases h) (fun _ _ => trivial) (by simp only [execOp, evalC, evalF, evalG, resolve, i65, i67, List.map_toArray, List.map_cons, List.map_nil]; simp [invoke, egD, Result.andThen, go_sem]) (by intro h; cases h) (callsIn_wide.2 (HDX.out u hu)) ?_
          rintro e w' ⟨rfl, hb⟩
          exact ⟨_, rfl, _, rfl, rfl, hb⟩
        · simp only [List.getElem?_toArray, List.getElem?_cons_zero, List.getElem?_cons_succ, Option.some.injEq] at ho
          subst ho
          obtain rfl := Option.some.inj hdt
          have i64 : (act.eval (.tmp (64 : Nat))) = frV Zz := hin ⟨2, .data⟩ (by simp) rfl 64 rfl
          have i68 : (act.eval (.tmp (68 : Nat))) = frV dx := hin ⟨6, .data⟩ (by simp) rfl 68 rfl
          refine enter_wp 13 #[frV Zz, frV dx] (by intro c h; cases h) (fun _ _ => trivial) (by simp only [execOp, evalC, evalF, evalG, resolve, i64, i68, List.map_toArray, List.map_cons, List.map_nil]; simp [invoke, egB, Result.andThen, go_sem]) (by intro h; cases h) (callsIn_wide.2 (HEE.out u)) ?_
          rintro e w' ⟨rfl, hb⟩
          exact ⟨_, rfl, _, rfl, rfl, hb⟩
        · simp only [List.getElem?_toArray, List.getElem?_cons_zero, List.getElem?_cons_succ, Option.some.injEq] at ho
          subst ho
          obtain rfl := Option.some.inj hdt
          exact plain_wp (by intro c h; cases h) (fun _ _ => trivial) (w' := u.alloc (.cells #[.int .i64 0, .int .i64 0, .bool false] 35)) (v := .pointer (some ⟨u.heap.size, 0, none⟩)) (by simp only [execOp]; simp [go_sem]) ⟨_, rfl, ⟨u.heap.size, rfl, hu.size, FBox.new u zeroR _⟩, (Bl.refl _).alloc _⟩
        · simp only [List.getElem?_toArray, List.getElem?_cons_zero, List.getElem?_cons_succ, Option.some.injEq] at ho
          subst ho
          cases hdt
      case still =>
        intro j o t act u0 u ho hdt hpu
        cases hpu
      case store =>
        intro o act u vs ho hsz hu hfr hin
        simp only [List.getElem?_toArray, List.getElem?_cons_zero, List.getElem?_cons_succ, Option.some.injEq] at ho
        subst ho
        obtain ⟨i10, k10⟩ : act.eval (.tmp (10 : Nat)) = vs 8 ∧ (∃ b, (vs 8) = .pointer (some ⟨b, 0, none⟩) ∧ w6.heap.size ≤ b ∧ FBox u b zeroR) := hin 8 10 rfl rfl
        obtain ⟨i69, k69⟩ : act.eval (.tmp (69 : Nat)) = vs 7 ∧ ((vs 7) = frV E) := hin 7 69 rfl rfl
        obtain ⟨b, e1, hb, bx⟩ := k10
        rw [e1] at i10
        replace i69 := i69.trans k69
        obtain ⟨d0, d1, d2, g0, g1, g2, ltb⟩ := id bx
        exact skip_wp (by intro c h; cases h) (fun _ _ => trivial) (by simp only [execOp, i10, i69]; simp [go_sem, zeroR, d0, d1, d2, g0, g1, g2]) ⟨rfl, b, e1, hb, bx.fill _, Bl.set3 hu hb _ _ _⟩
      case fin =>
        intro vs vb u0 u hu hin hps
        have a0 := hin 0 62 rfl
        have a1 := hin 1 63 rfl
        have a2 := hin 2 64 rfl
        have a3 := hin 3 65 rfl
        have a4 := hin 4 66 rfl
        have a5 := hin 5 67 rfl
        have a6 := hin 6 68 rfl
        have a7 := hin 7 69 rfl
        have a8 := hin 8 10 rfl
        simp only [putL, Act.put, List.setIfInBounds_toArray, List.set_cons_zero, List.set_cons_succ, Nat.zero_add, Nat.reduceAdd, Nat.reduceBEq, Bool.or_false, Bool.or_true, Bool.false_or, Bool.true_or, Bool.false_eq_true, if_false, if_true, reduceIte, Nat.reduceEqDiff, beq_self_eq_true, Bool.or_self] at a0 a1 a2 a3 a4 a5 a6 a7 a8 ⊢
        rw [if_pos (by decide)] at hps
        simp only [a0, a1, a2, a3, a4, a5, a6, a7]
        obtain ⟨be, eb, hb, ke, hbu⟩ := hps
        simp only [eb]
        obtain ⟨w8, rfl⟩ : ∃ w8, w8 = u := ⟨_, rfl⟩
        have b68 : Bl w6 w8 := hbu
        have b28 : Bl W2 w8 := b26.trans b68
        have b58 : Bl w5 w8 := b56.trans b68
        have b8w : Bl W w8 := b2w.trans b28
        clear a0 a1 a2 a3 a4 a5 a6 a7 hin HDX HEE
        obtain ⟨du, hdu⟩ : ∃ y, y = dotF (linJ m (fun i => wholeF (H.getD i 0))) (linJ m (appJ kdF m (squareJ kdF m (fun i k => wholeF (ofL m Ro i k))) (fun i => wholeF (H.getD i 0)))) := ⟨_, rfl⟩
        obtain ⟨A, hA⟩ : ∃ y, y = addR du Rr := ⟨_, rfl⟩
        have HDU := hideP (fun u (hu : Bl w8 u) => dot_lin9 hdu u (HH3.out.later ((b36.trans b68).trans hu)) (HU6.out.later (b68.trans hu)) ml6)
        have HAA := hideP (fun u => add_eq9 hA u)
        have HA := hideP (show A = spreadJ kdF m (squareJ kdF m (fun i k => wholeF (ofL m Ro i k))) (fun i => wholeF (H.getD i 0)) Rr from by rw [hA, hdu, spread_eq9])
        rw [← HA.out] at n5
        clear hdu hA
        go_wp2_with fail
        refine (wpIn_wide (n := 8)).1 (region_q fm [some 70, some 71, some 72, some 73, some 74, some 75, some 76, some 11, none] (fun _ => false) 8 (by kernel_rfl) (by rfl)
              (fun j v u => match j with | 0 => v = .slice qh m hc | 1 => v = .slice (some ⟨gu, ou, none⟩) m uc | 2 => v = frV du | 3 => v = .pointer (some ⟨w.heap.size, 6, none⟩) | 4 => v = .int .i64 r | 5 => v = frV Rr | 6 => v = frV A | 7 => ∃ b, v = .pointer (some ⟨b, 0, none⟩) ∧ w8.heap.size ≤ b ∧ FBox u b zeroR | _ => False)
              (by
                intro j v u u' hb h
                split at h <;> first | exact h | (obtain ⟨b, e, h1, h2⟩ := h; exact ⟨b, e, h1, h2.later hb⟩)) (fun vs u0 u => ∃ b, vs 7 = .pointer (some ⟨b, 0, none⟩) ∧ w8.heap.size ≤ b ∧ FBox u b A ∧ Bl w8 u) ?step ?still ?store ?fin)
        case step =>
          intro j o t act u ho hdt hpu hsz hu hfr hin
          have hj : j < 9 := (Array.getElem?_eq_some_iff.1 ho).1
          obtain ⟨c0, c1, c2, c3, c4, c5, c6, c7⟩ := HC.out _ (b8w.trans hu)
          rcases (by omega : j = 0 ∨ j = 1 ∨ j = 2 ∨ j = 3 ∨ j = 4 ∨ j = 5 ∨ j = 6 ∨ j = 7 ∨ j = 8) with rfl | rfl | rfl | rfl | rfl | rfl | rfl | rfl | rfl
          · simp only [List.getElem?_toArray, List.getElem?_cons_zero, List.getElem?_cons_succ, Option.some.injEq] at ho
            subst ho
            obtain rfl := Option.some.inj hdt
            have i4 : act.eval (.tmp (4 : Nat)) = .slice qh m hc := hfr 4 (by decide)
            exact plain_wp (by intro c h; cases h) (fun _ _ => trivial) (by simp only [execOp, i4, evalC, evalF, evalG]; simp [go_sem, c6]) ⟨_, rfl, rfl, Bl.refl _⟩
          · simp only [List.getElem?_toArray, List.getElem?_cons_zero, List.getElem?_cons_succ, Option.some.injEq] at ho
            subst ho
            obtain rfl := Option.some.inj hdt
            have i8 : act.eval (.tmp (8 : Nat)) = .slice (some ⟨gu, ou, none⟩) m uc := hfr 8 (by decide)
            exact plain_wp (by intro c h; cases h) (fun _ _ => trivial) (by simp only [execOp, i8, evalC, evalF, evalG]; simp [go_sem, c6]) ⟨_, rfl, rfl, Bl.refl _⟩
          · simp only [List.getElem?_toArray, List.getElem?_cons_zero, List.getElem?_cons_succ, Option.some.injEq] at ho
            subst ho
            obtain rfl := Option.some.inj hdt
            have i70 : (act.eval (.tmp (70 : Nat))) = .slice qh m hc := hin ⟨0, .data⟩ (by simp) rfl 70 rfl
            have i71 : (act.eval (.tmp (71 : Nat))) = .slice (some ⟨gu, ou, none⟩) m uc := hin ⟨1, .data⟩ (by simp) rfl 71 rfl
            refine enter_wp 14 #[.slice qh m hc, .slice (some ⟨gu, ou, none⟩) m uc] (by intro c h; cases h) (fun _ _ => trivial) (by simp only [execOp, evalC, evalF, evalG, resolve, i70, i71, List.map_toArray, List.map_cons, List.map_nil]; simp [invoke, egD, Result.andThen, go_sem]) (by intro h; cases h) (callsIn_wide.2 (HDU.out u hu)) ?_
            rintro e w' ⟨rfl, hb⟩
            exact ⟨_, rfl, _, rfl, rfl, hb⟩
          · simp only [List.getElem?_toArray, List.getElem?_cons_zero, List.getElem?_cons_succ, Option.some.injEq] at ho
            subst ho
            obtain rfl := Option.some.inj hdt
            have i1 : act.eval (.tmp (1 : Nat)) = .pointer (some ⟨w.heap.size, 0, none⟩) := hfr 1 (by decide)
            exact plain_wp (by intro c h; cases h) (fun _ _ => trivial) (by simp only [execOp, i1, evalC, evalF, evalG]; simp [go_sem, c6]) ⟨_, rfl, rfl, Bl.refl _⟩
          · simp only [List.getElem?_toArray, List.getElem?_cons_zero, List.getElem?_cons_succ, Option.some.injEq] at ho
            subst ho
            obtain rfl := Option.some.inj hdt
            have i73 : (act.eval (.tmp (73 : Nat))) = .pointer (some ⟨w.heap.size, 6, none⟩) := hin ⟨3, .data⟩ (by simp) rfl 73 rfl
            exact plain_wp (by intro c h; cases h) (fun _ _ => trivial) (by simp only [execOp, i73, evalC, evalF, evalG]; simp [go_sem, c6]) ⟨_, rfl, rfl, Bl.refl _⟩
          · simp only [List.getElem?_toArray, List.getElem?_cons_zero, List.getElem?_cons_succ, Option.some.injEq] at ho
            subst ho
            obtain rfl := Option.some.inj hdt
            have i74 : (act.eval (.tmp (74 : Nat))) = .int .i64 r := hin ⟨4, .data⟩ (by simp) rfl 74 rfl
            refine enter_wp 11 #[.int .i64 r, .int .i64 1] (by intro c h; cases h) (fun _ _ => trivial) (by simp only [execOp, evalC, evalF, evalG, resolve, i74, evalC, List.map_toArray, List.map_cons, List.map_nil]; simp [invoke, egQ, Result.andThen, go_sem]) (by intro h; cases h) (callsIn_wide.2 (new_any r 1 u)) ?_
            rintro e w' ⟨rfl, hb⟩
            exact ⟨_, rfl, _, rfl, show frV (newR r 1) = frV Rr from by rw [HRr.out], hb⟩
          · simp only [List.getElem?_toArray, List.getElem?_cons_zero, List.getElem?_cons_succ, Option.some.injEq] at ho
            subst ho
            obtain rfl := Option.some.inj hdt
            have i72 : (act.eval (.tmp (72 : Nat))) = frV du := hin ⟨2, .data⟩ (by simp) rfl 72 rfl
            have i75 : (act.eval (.tmp (75 : Nat))) = frV Rr := hin ⟨5, .data⟩ (by simp) rfl 75 rfl
            refine enter_wp 15 #[frV du, frV Rr] (by intro c h; cases h) (fun _ _ => trivial) (by simp only [execOp, evalC, evalF, evalG, resolve, i72, i75, List.map_toArray, List.map_cons, List.map_nil]; simp [invoke, egA, Result.andThen, go_sem]) (by intro h; cases h) (callsIn_wide.2 (HAA.out u)) ?_
            rintro e w' ⟨rfl, hb⟩
            exact ⟨_, rfl, _, rfl, rfl, hb⟩
          · simp only [List.getElem?_toArray, List.getElem?_cons_zero, List.getElem?_cons_succ, Option.some.injEq] at ho
            subst ho
            obtain rfl := Option.some.inj hdt
            exact plain_wp (by intro c h; cases h) (fun _ _ => trivial) (w' := u.alloc (.cells #[.int .i64 0, .int .i64 0, .bool false] 35)) (v := .pointer (some ⟨u.heap.size, 0, none⟩)) (by simp only [execOp]; simp [go_sem]) ⟨_, rfl, ⟨u.heap.size, rfl, hu.size, FBox.new u zeroR _⟩, (Bl.refl _).alloc _⟩
          · simp only [List.getElem?_toArray, List.getElem?_cons_zero, List.getElem?_cons_succ, Option.some.injEq] at ho
            subst ho
            cases hdt
        case still =>
          intro j o t act u0 u ho hdt hpu
          cases hpu
        case store =>
          intro o act u vs ho hsz hu hfr hin
          simp only [List.getElem?_toArray, List.getElem?_cons_zero, List.getElem?_cons_succ, Option.some.injEq] at ho
          subst ho
          obtain ⟨i11, k11⟩ : act.eval (.tmp (11 : Nat)) = vs 7 ∧ (∃ b, (vs 7) = .pointer (some ⟨b, 0, none⟩) ∧ w8.heap.size ≤ b ∧ FBox u b zeroR) := hin 7 11 rfl rfl
          obtain ⟨i76, k76⟩ : act.eval (.tmp (76 : Nat)) = vs 6 ∧ ((vs 6) = frV A) := hin 6 76 rfl rfl
          obtain ⟨b, e1, hb, bx⟩ := k11
          rw [e1] at i11
          replace i76 := i76.trans k76
          obtain ⟨d0, d1, d2, g0, g1, g2, ltb⟩ := id bx
          exact skip_wp (by intro c h; cases h) (fun _ _ => trivial) (by simp only [execOp, i11, i76]; simp [go_sem, zeroR, d0, d1, d2, g0, g1, g2]) ⟨rfl, b, e1, hb, bx.fill _, Bl.set3 hu hb _ _ _⟩
        case fin =>
          intro vs vb u0 u hu hin hps
          have a0 := hin 0 70 rfl
          have a1 := hin 1 71 rfl
          have a2 := hin 2 72 rfl
          have a3 := hin 3 73 rfl
          have a4 := hin 4 74 rfl
          have a5 := hin 5 75 rfl
          have a6 := hin 6 76 rfl
          have a7 := hin 7 11 rfl
          simp only [putL, Act.put, List.setIfInBounds_toArray, List.set_cons_zero, List.set_cons_succ, Nat.zero_add, Nat.reduceAdd, Nat.reduceBEq, Bool.or_false, Bool.or_true, Bool.false_or, Bool.true_or, Bool.false_eq_true, if_false, if_true, reduceIte, Nat.reduceEqDiff, beq_self_eq_true, Bool.or_self] at a0 a1 a2 a3 a4 a5 a6 a7 ⊢
          rw [if_pos (by decide)] at hps
          simp only [a0, a1, a2, a3, a4, a5, a6]
          obtain ⟨ba, eb, hb, ka, hbu⟩ := hps
          simp only [eb]
          obtain ⟨w9, rfl⟩ : ∃ w9, w9 = u := ⟨_, rfl⟩
          have b89 : Bl w8 w9 := hbu
          have b29 : Bl W2 w9 := b28.trans b89
          have b59 : Bl w5 w9 := b58.trans b89
          have b9w : Bl W w9 := b2w.trans b29
          have HCU := hideP (fun u (hu : Bl w9 u) => HCU6.out u ((b68.trans b89).trans hu))
          clear a0 a1 a2 a3 a4 a5 a6 hin HDU HAA
          obtain ⟨c0, c1, c2, c3, c4, c5, c6, c7⟩ := HC.out w9 b9w
          go_wp2_with fail
          clear c0 c1 c2 c3 c4 c5 c6 c7
          go_loopw [79] (fun v wr => ∃ ii : Nat, v = .int .i64 ii ∧ ii ≤ m ∧ Bl w9 wr) (fun v _ => m - (intOf v).toNat)
          case atStart => exact ⟨0, rfl, Nat.zero_le _, Bl.refl _⟩
          case round =>
            obtain ⟨ii, rfl, hin, bi'⟩ := hrel
            obtain ⟨wq, hwq⟩ : ∃ wq : World, wq = wr := ⟨_, rfl⟩
            subst hwq
            have bi : Bl w9 wq := bi'
            by_cases hii : ii < m
            · obtain ⟨U, hU⟩ : ∃ y, y = (appJ kdF m (squareJ kdF m (fun i k => wholeF (ofL m Ro i k))) (fun i => wholeF (H.getD i 0))) ii := ⟨_, rfl⟩
              obtain ⟨XI, hXI⟩ : ∃ y, y = wholeF (X.getD ii 0) := ⟨_, rfl⟩
              obtain ⟨UE, hUE⟩ : ∃ y, y = mulR U E := ⟨_, rfl⟩
              obtain ⟨UQ, hUQ⟩ : ∃ y, y = divR UE A := ⟨_, rfl⟩
              obtain ⟨XK, hXK⟩ : ∃ y, y = addR XI UQ := ⟨_, rfl⟩
              have HU := hideP hU
              have HXI := hideP hXI
              have HUE := hideP hUE
              have HUQ := hideP hUQ
              have HXK := hideP hXK
              have HUM := hideP (fun u => mul_eq9 hUE u)
              have HUD := hideP (fun u => div_eq9 hUQ u)
              have HXA := hideP (fun u => add_eq9 hXK u)
              have CI := fun (u : World) (hu : Bl w9 u) => HCU.out u hu ii hii
              have CX := fun (u : World) (hu : Bl w9 u) => HCX.out u (b29.trans hu) ii hii
              rw [← hU] at CI
              rw [← hXI] at CX
              clear hU hXI hUE hUQ hXK
              go_wp2_with fail
              refine (wpIn_wide (n := 8)).1 (region_q fm [some 82, some 83, some 84, some 85, some 86, some 87, some 88, some 89, some 90, some 91, some 92, some 93, some 94, some 95, some 13, none] (fun _ => false) 15 (by kernel_rfl) (by rfl)
                (fun j v u => match j with | 0 => v = .pointer (some ⟨w2.heap.size, 0, none⟩) | 1 => v = .slice (some ⟨gx, ox, none⟩) m cq2 | 2 => v = .int .i64 ii | 3 => v = .pointer (some ⟨gx, ox + ii * 3, none⟩) | 4 => v = frV XI | 5 => v = .slice (some ⟨gu, ou, none⟩) m uc | 6 => v = .int .i64 ii | 7 => v = .pointer (some ⟨gu, ou + ii * 3, none⟩) | 8 => v = frV U | 9 => v = frV E | 10 => v = frV UE | 11 => v = frV A | 12 => v = frV UQ | 13 => v = frV XK | 14 => ∃ b, v = .pointer (some ⟨b, 0, none⟩) ∧ wq.heap.size ≤ b ∧ FBox u b zeroR | _ => False)
                (by
                  intro j v u u' hb h
                  split at h <;> first | exact h | (obtain ⟨b, e, h1, h2⟩ := h; exact ⟨b, e, h1, h2.later hb⟩)) (fun vs u0 u => ∃ b, vs 14 = .pointer (some ⟨b, 0, none⟩) ∧ wq.heap.size ≤ b ∧ FBox u b XK ∧ Bl wq u) ?step ?still ?store ?fin)
              case step =>
                intro j o t act u ho hdt hpu hsz hu hfr hin
                have hj : j < 16 := (Array.getElem?_eq_some_iff.1 ho).1
                obtain ⟨s0, s1, s2, s3, _, _, _, _, _⟩ := k2.later ((b29.trans bi).trans hu)
                obtain ⟨a0, a1, a2, _, _, _, _⟩ := ka.later (bi.trans hu)
                obtain ⟨e0, e1, e2, _, _, _, _⟩ := ke.later ((b89.trans bi).trans hu)
                rw [HGX.out] at s0
                obtain ⟨x0, x1, x2⟩ := CI u (bi.trans hu)
                obtain ⟨y0, y1, y2⟩ := CX u (bi.trans hu)
                rcases (by omega : j = 0 ∨ j = 1 ∨ j = 2 ∨ j = 3 ∨ j = 4 ∨ j = 5 ∨ j = 6 ∨ j = 7 ∨ j = 8 ∨ j = 9 ∨ j = 10 ∨ j = 11 ∨ j = 12 ∨ j = 13 ∨ j = 14 ∨ j = 15) with rfl | rfl | rfl | rfl | rfl | rfl | rfl | rfl | rfl | rfl | rfl | rfl | rfl | rfl | rfl | rfl
                · simp only [List.getElem?_toArray, List.getElem?_cons_zero, List.getElem?_cons_succ, Option.some.injEq] at ho
                  subst ho
                  obtain rfl := Option.some.inj hdt
                  have i3 : act.eval (.tmp (3 : Nat)) = .pointer (some ⟨w2.heap.size, 0, none⟩) := hfr 3 (by decide)
                  exact plain_wp (by intro c h; cases h) (fun _ _ => trivial) (by simp only [execOp, i3, evalC, evalF, evalG]; simp [go_sem, s0]) ⟨_, rfl, rfl, Bl.refl _⟩
                · simp only [List.getElem?_toArray, List.getElem?_cons_zero, List.getElem?_cons_succ, Option.some.injEq] at ho
                  subst ho
                  obtain rfl := Option.some.inj hdt
                  have i82 : (act.eval (.tmp (82 : Nat))) = .pointer (some ⟨w2.heap.size, 0, none⟩) := hin ⟨0, .data⟩ (by simp) rfl 82 rfl
                  exact plain_wp (by intro c h; cases h) (fun _ _ => trivial) (by simp only [execOp, i82, evalC, evalF, evalG]; simp [go_sem, s0]) ⟨_, rfl, rfl, Bl.refl _⟩
                · simp only [List.getElem?_toArray, List.getElem?_cons_zero, List.getElem?_cons_succ, Option.some.injEq] at ho
                  subst ho
                  obtain rfl := Option.some.inj hdt
                  have i12 : act.eval (.tmp (12 : Nat)) = .int .i64 ii := hfr 12 (by decide)
                  exact plain_wp (by intro c h; cases h) (fun _ _ => trivial) (by simp only [execOp, i12, evalC, evalF, evalG]; simp [go_sem, s0]) ⟨_, rfl, rfl, Bl.refl _⟩
                · simp only [List.getElem?_toArray, List.getElem?_cons_zero, List.getElem?_cons_succ, Option.some.injEq] at ho
                  subst ho
                  obtain rfl := Option.some.inj hdt
                  have i83 : (act.eval (.tmp (83 : Nat))) = .slice (some ⟨gx, ox, none⟩) m cq2 := hin ⟨1, .data⟩ (by simp) rfl 83 rfl
                  have i84 : (act.eval (.tmp (84 : Nat))) = .int .i64 ii := hin ⟨2, .data⟩ (by simp) rfl 84 rfl
                  exact plain_wp (by intro c h; cases h) (fun _ _ => trivial) (by simp only [execOp, i83, i84, evalC, evalF, evalG]; simp [go_sem, hii, y0, y1, y2]) ⟨_, rfl, rfl, Bl.refl _⟩
                · simp only [List.getElem?_toArray, List.getElem?_cons_zero, List.getElem?_cons_succ, Option.some.injEq] at ho
                  subst ho
                  obtain rfl := Option.some.inj hdt
                  have i85 : (act.eval (.tmp (85 : Nat))) = .pointer (some ⟨gx, ox + ii * 3, none⟩) := hin ⟨3, .data⟩ (by simp) rfl 85 rfl
                  exact plain_wp (by intro c h; cases h) (fun _ _ => trivial) (by simp only [execOp, i85, evalC, evalF, evalG]; simp [go_sem, y0, y1, y2]) ⟨_, rfl, rfl, Bl.refl _⟩
                · simp only [List.getElem?_toArray, List.getElem?_cons_zero, List.getElem?_cons_succ, Option.some.injEq] at ho
                  subst ho
                  obtain rfl := Option.some.inj hdt
                  have i8 : act.eval (.tmp (8 : Nat)) = .slice (some ⟨gu, ou, none⟩) m uc := hfr 8 (by decide)
                  exact plain_wp (by intro c h; cases h) (fun _ _ => trivial) (by simp only [execOp, i8, evalC, evalF, evalG]; simp [go_sem, s0]) ⟨_, rfl, rfl, Bl.refl _⟩
                · simp only [List.getElem?_toArray, List.getElem?_cons_zero, List.getElem?_cons_succ, Option.some.injEq] at ho
                  subst ho
                  obtain rfl := Option.some.inj hdt
                  have i12 : act.eval (.tmp (12 : Nat)) = .int .i64 ii := hfr 12 (by decide)
                  exact plain_wp (by intro c h; cases h) (fun _ _ => trivial) (by simp only [execOp, i12, evalC, evalF, evalG]; simp [go_sem, s0]) ⟨_, rfl, rfl, Bl.refl _⟩
                · simp only [List.getElem?_toArray, List.getElem?_cons_zero, List.getElem?_cons_succ, Option.some.injEq] at ho
                  subst ho
                  obtain rfl := Option.some.inj hdt
                  have i87 : (act.eval (.tmp (87 : Nat))) = .slice (some ⟨gu, ou, none⟩) m uc := hin ⟨5, .data⟩ (by simp) rfl 87 rfl
                  have i88 : (act.eval (.tmp (88 : Nat))) = .int .i64 ii := hin ⟨6, .data⟩ (by simp) rfl 88 rfl
                  exact plain_wp (by intro c h; cases h) (fun _ _ => trivial) (by simp only [execOp, i87, i88, evalC, evalF, evalG]; simp [go_sem, hii, x0, x1, x2]) ⟨_, rfl, rfl, Bl.refl _⟩
                · simp only [List.getElem?_toArray, List.getElem?_cons_zero, List.getElem?_cons_succ, Option.some.injEq] at ho
                  subst ho
                  obtain rfl := Option.some.inj hdt
                  have i89 : (act.eval (.tmp (89 : Nat))) = .pointer (some ⟨gu, ou + ii * 3, none⟩) := hin ⟨7, .data⟩ (by simp) rfl 89 rfl
                  exact plain_wp (by intro c h; cases h) (fun _ _ => trivial) (by simp only [execOp, i89, evalC, evalF, evalG]; simp [go_sem, x0, x1, x2]) ⟨_, rfl, rfl, Bl.refl _⟩
                · simp only [List.getElem?_toArray, List.getElem?_cons_zero, List.getElem?_cons_succ, Option.some.injEq] at ho
                  subst ho
                  obtain rfl := Option.some.inj hdt
                  have i10 : act.eval (.tmp (10 : Nat)) = .pointer (some ⟨be, 0, none⟩) := hfr 10 (by decide)
                  exact plain_wp (by intro c h; cases h) (fun _ _ => trivial) (by simp only [execOp, i10, evalC, evalF, evalG]; simp [go_sem, e0, e1, e2]) ⟨_, rfl, rfl, Bl.refl _⟩
                · simp only [List.getElem?_toArray, List.getElem?_cons_zero, List.getElem?_cons_succ, Option.some.injEq] at ho
                  subst ho
                  obtain rfl := Option.some.inj hdt
                  have i90 : (act.eval (.tmp (90 : Nat))) = frV U := hin ⟨8, .data⟩ (by simp) rfl 90 rfl
                  have i91 : (act.eval (.tmp (91 : Nat))) = frV E := hin ⟨9, .data⟩ (by simp) rfl 91 rfl
                  refine enter_wp 16 #[frV U, frV E] (by intro c h; cases h) (fun _ _ => trivial) (by simp only [execOp, evalC, evalF, evalG, resolve, i90, i91, List.map_toArray, List.map_cons, List.map_nil]; simp [invoke, egU2, Result.andThen, go_sem]) (by intro h; cases h) (callsIn_wide.2 (HUM.out u)) ?_
                  rintro e w' ⟨rfl, hb⟩
                  exact ⟨_, rfl, _, rfl, rfl, hb⟩
                · simp only [List.getElem?_toArray, List.getElem?_cons_zero, List.getElem?_cons_succ, Option.some.injEq] at ho
                  subst ho
                  obtain rfl := Option.some.inj hdt
                  have i11 : act.eval (.tmp (11 : Nat)) = .pointer (some ⟨ba, 0, none⟩) := hfr 11 (by decide)
                  exact plain_wp (by intro c h; cases h) (fun _ _ => trivial) (by simp only [execOp, i11, evalC, evalF, evalG]; simp [go_sem, a0, a1, a2]) ⟨_, rfl, rfl, Bl.refl _⟩
                · simp only [List.getElem?_toArray, List.getElem?_cons_zero, List.getElem?_cons_succ, Option.some.injEq] at ho
                  subst ho
                  obtain rfl := Option.some.inj hdt
                  have i92 : (act.eval (.tmp (92 : Nat))) = frV UE := hin ⟨10, .data⟩ (by simp) rfl 92 rfl
                  have i93 : (act.eval (.tmp (93 : Nat))) = frV A := hin ⟨11, .data⟩ (by simp) rfl 93 rfl
                  refine enter_wp 17 #[frV UE, frV A] (by intro c h; cases h) (fun _ _ => trivial) (by simp only [execOp, evalC, evalF, evalG, resolve, i92, i93, List.map_toArray, List.map_cons, List.map_nil]; simp [invoke, egV, Result.andThen, go_sem]) (by intro h; cases h) (callsIn_wide.2 (HUD.out u)) ?_
                  rintro e w' ⟨rfl, hb⟩
                  exact ⟨_, rfl, _, rfl, rfl, hb⟩
                · simp only [List.getElem?_toArray, List.getElem?_cons_zero, List.getElem?_cons_succ, Option.some.injEq] at ho
                  subst ho
                  obtain rfl := Option.some.inj hdt
                  have i86 : (act.eval (.tmp (86 : Nat))) = frV XI := hin ⟨4, .data⟩ (by simp) rfl 86 rfl
                  have i94 : (act.eval (.tmp (94 : Nat))) = frV UQ := hin ⟨12, .data⟩ (by simp) rfl 94 rfl
                  refine enter_wp 15 #[frV XI, frV UQ] (by intro c h; cases h) (fun _ _ => trivial) (by simp only [execOp, evalC, evalF, evalG, resolve, i86, i94, List.map_toArray, List.map_cons, List.map_nil]; simp [invoke, egA, Result.andThen, go_sem]) (by intro h; cases h) (callsIn_wide.2 (HXA.out u)) ?_
                  rintro e w' ⟨rfl, hb⟩
                  exact ⟨_, rfl, _, rfl, rfl, hb⟩
                · simp only [List.getElem?_toArray, List.getElem?_cons_zero, List.getElem?_cons_succ, Option.some.injEq] at ho
                  subst ho
                  obtain rfl := Option.some.inj hdt
                  exact plain_wp (by intro c h; cases h) (fun _ _ => trivial) (w' := u.alloc (.cells #[.int .i64 0, .int .i64 0, .bool false] 35)) (v := .pointer (some ⟨u.heap.size, 0, none⟩)) (by simp only [execOp]; simp [go_sem]) ⟨_, rfl, ⟨u.heap.size, rfl, hu.size, FBox.new u zeroR _⟩, (Bl.refl _).alloc _⟩
                · simp only [List.getElem?_toArray, List.getElem?_cons_zero, List.getElem?_cons_succ, Option.some.injEq] at ho
                  subst ho
                  cases hdt
              case still =>
                intro j o t act u0 u ho hdt hpu
                cases hpu
              case store =>
                intro o act u vs ho hsz hu hfr hin
                simp only [List.getElem?_toArray, List.getElem?_cons_zero, List.getElem?_cons_succ, Option.some.injEq] at ho
                subst ho
                obtain ⟨i13, k13⟩ : act.eval (.tmp (13 : Nat)) = vs 14 ∧ (∃ b, (vs 14) = .pointer (some ⟨b, 0, none⟩) ∧ wq.heap.size ≤ b ∧ FBox u b zeroR) := hin 14 13 rfl rfl
                obtain ⟨i95, k95⟩ : act.eval (.tmp (95 : Nat)) = vs 13 ∧ ((vs 13) = frV XK) := hin 13 95 rfl rfl
                obtain ⟨b, e1, hb, bx⟩ := k13
                rw [e1] at i13
                replace i95 := i95.trans k95
                obtain ⟨d0, d1, d2, g0, g1, g2, ltb⟩ := id bx
                exact skip_wp (by intro c h; cases h) (fun _ _ => trivial) (by simp only [execOp, i13, i95]; simp [go_sem, zeroR, d0, d1, d2, g0, g1, g2]) ⟨rfl, b, e1, hb, bx.fill _, Bl.set3 hu hb _ _ _⟩
              case fin =>
                intro vs vb u0 u hu hin hps
                have a0 := hin 0 82 rfl
                have a1 := hin 1 83 rfl
                have a2 := hin 2 84 rfl
                have a3 := hin 3 85 rfl
                have a4 := hin 4 86 rfl
                have a5 := hin 5 87 rfl
                have a6 := hin 6 88 rfl
                have a7 := hin 7 89 rfl
                have a8 := hin 8 90 rfl
                have a9 := hin 9 91 rfl
                have a10 := hin 10 92 rfl
                have a11 := hin 11 93 rfl
                have a12 := hin 12 94 rfl
                have a13 := hin 13 95 rfl
                have a14 := hin 14 13 rfl
                simp only [putL, Act.put, List.setIfInBounds_toArray, List.set_cons_zero, List.set_cons_succ, Nat.zero_add, Nat.reduceAdd, Nat.reduceBEq, Bool.or_false, Bool.or_true, Bool.false_or, Bool.true_or, Bool.false_eq_true, if_false, if_true, reduceIte, Nat.reduceEqDiff, beq_self_eq_true, Bool.or_self] at a0 a1 a2 a3 a4 a5 a6 a7 a8 a9 a10 a11 a12 a13 a14 ⊢
                rw [if_pos (by decide)] at hps
                simp only [a0, a1, a2, a3, a4, a5, a6, a7, a8, a9, a10, a11, a12, a13]
                obtain ⟨b14, eb, hb, kb, hbu⟩ := hps
                simp only [eb]
                obtain ⟨wv, rfl⟩ : ∃ wv, wv = u := ⟨_, rfl⟩
                have bv : Bl w9 wv := bi.trans hbu
                clear hin a0 a1 a2 a3 a4 a5 a6 a7 a8 a9 a10 a11 a12 a13 CX
                obtain ⟨XT, hXT⟩ : ∃ y, y = (upXJ kdF m (fun i => wholeF (X.getD i 0)) (squareJ kdF m (fun i k => wholeF (ofL m Ro i k))) (fun i => wholeF (H.getD i 0)) Rr Zz) ii := ⟨_, rfl⟩
                have KEY : XK.bad = true ∨ XT.bad = true ∨ XK = XT := by
                  rw [hXT, HXK.out, HUQ.out, HUE.out, HXI.out, HU.out, HE.out, HA.out]
                  exact std_xkey9
                have CT := fun (zw : Wl wv) => HCT.out zw.w ((b59.trans bv).trans zw.bl) ii hii
                rw [← hXT] at CT
                have y0 := fun zw => (CT zw).1
                have y1 := fun zw => (CT zw).2.1
                have y2 := fun zw => (CT zw).2.2
                have t0 := fun zw : Wl wv => (k5.later ((b59.trans bv).trans zw.bl)).c0
                rw [HGT.out] at t0
                have z0 := fun zw : Wl wv => (kb.later zw.bl).c0
                have z1 := fun zw : Wl wv => (kb.later zw.bl).c1
                have z2 := fun zw : Wl wv => (kb.later zw.bl).c2
                have sx := eql_selfV XK
                have nx := neq_selfV XK
                clear hXT HUM HUD HXA HXK CT
                obtain ⟨xn, xd, xb⟩ := XK
                obtain ⟨yn, yd, yb⟩ := XT
                have wne := wl_ne wv
                dsimp only at z0 z1 z2 y0 y1 y2 KEY
                cases xb
                · rcases KEY with h | h | hxy
                  · cases h
                  · subst h
                    clear sx nx
                    go_wp2_with fail
                    refine wl_region wv (Bl.refl _) (by kernel_rfl) (by kernel_rfl) ?_
                    repeat (go_big_quiet_step (first | fail))
                    refine wpQuiet_nil ?_
                    intro _ hw'
                    obtain ⟨zw, hw''⟩ := hw'
                    subst hw''
                    clear wne t0 y0 y1 y2 z0 z1 z2
                    obtain ⟨wz, hz⟩ := zw
                    dsimp only
                    have bx1 : Bl w9 wz := bv.trans hz
                    obtain ⟨c0, c1, c2, c3, c4, c5, c6, c7⟩ := HC.out wz (b9w.trans bx1)
                    go_wp2_with fail
                    clear c0 c1 c2 c3 c4 c5 c6 c7
                    go_loopw [119] (fun v wr => ∃ kk : Nat, v = .int .i64 kk ∧ kk ≤ m ∧ Bl w9 wr) (fun v _ => m - (intOf v).toNat)
                    case atStart => exact ⟨0, rfl, Nat.zero_le _, bx1⟩
                    case round =>
                      obtain ⟨kk, rfl, hkm, bk'⟩ := hrel
                      obtain ⟨wk, hwk⟩ : ∃ wk : World, wk = wr := ⟨_, rfl⟩
                      subst hwk
                      have bk : Bl w9 wk := bk'
                      by_cases hkk : kk < m
                      · obtain ⟨K, hK⟩ : ∃ y, y = (appJ kdF m (squareJ kdF m (fun i k => wholeF (ofL m Ro i k))) (fun i => wholeF (H.getD i 0))) kk := ⟨_, rfl⟩
                        obtain ⟨P, hP⟩ : ∃ y, y = (squareJ kdF m (fun i k => wholeF (ofL m Ro i k))) ii kk := ⟨_, rfl⟩
                        obtain ⟨UK, hUK⟩ : ∃ y, y = mulR U K := ⟨_, rfl⟩
                        obtain ⟨QK, hQK⟩ : ∃ y, y = divR UK A := ⟨_, rfl⟩
                        obtain ⟨PK, hPK⟩ : ∃ y, y = subR P QK := ⟨_, rfl⟩
                        have HK := hideP hK
                        have HP := hideP hP
                        have HUK := hideP hUK
                        have HQK := hideP hQK
                        have HPK := hideP hPK
                        have HAT := hideP (fun u (hu : Bl w9 u) => at_eq9 hP u (HM2.out.later (b29.trans hu)) hii hkk)
                        have HMU := hideP (fun u => mul_eq9 hUK u)
                        have HDV := hideP (fun u => div_eq9 hQK u)
                        have HSB := hideP (fun u => sub_eq9 hPK u)
                        have CI := fun (u : World) (hu : Bl w9 u) => HCU.out u hu ii hii
                        have CK := fun (u : World) (hu : Bl w9 u) => HCU.out u hu kk hkk
                        rw [← HU.out] at CI
                        rw [← hK] at CK
                        clear hK hP hUK hQK hPK
                        go_wp2_with fail
                        refine (wpIn_wide (n := 8)).1 (region_q fm [some 122, some 123, some 124, some 125, some 126, some 127, some 128, some 129, some 130, some 131, some 132, some 133, some 134, some 135, some 136, some 137, some 138, some 15, none] (fun _ => false) 18 (by kernel_rfl) (by rfl)
                          (fun j v u => match j with | 0 => v = .pointer (some ⟨w2.heap.size, 1, none⟩) | 1 => v = mV m m p2 N c2' | 2 => v = .int .i64 ii | 3 => v = .int .i64 kk | 4 => v = frV P | 5 => v = .slice (some ⟨gu, ou, none⟩) m uc | 6 => v = .int .i64 ii | 7 => v = .pointer (some ⟨gu, ou + ii * 3, none⟩) | 8 => v = frV U | 9 => v = .slice (some ⟨gu, ou, none⟩) m uc | 10 => v = .int .i64 kk | 11 => v = .pointer (some ⟨gu, ou + kk * 3, none⟩) | 12 => v = frV K | 13 => v = frV UK | 14 => v = frV A | 15 => v = frV QK | 16 => v = frV PK | 17 => ∃ b, v = .pointer (some ⟨b, 0, none⟩) ∧ wk.heap.size ≤ b ∧ FBox u b zeroR | _ => False)
                          (by
                            intro j v u u' hb h
                            split at h <;> first | exact h | (obtain ⟨b, e, h1, h2⟩ := h; exact ⟨b, e, h1, h2.later hb⟩)) (fun vs u0 u => ∃ b, vs 17 = .pointer (some ⟨b, 0, none⟩) ∧ wk.heap.size ≤ b ∧ FBox u b PK ∧ Bl wk u) ?step ?still ?store ?fin)
                        case step =>
                          intro j o t act u ho hdt hpu hsz hu hfr hin
                          have hj : j < 19 := (Array.getElem?_eq_some_iff.1 ho).1
                          obtain ⟨s0, s1, s2, s3, _, _, _, _, _⟩ := k2.later ((b29.trans bk).trans hu)
                          obtain ⟨a0, a1, a2, _, _, _, _⟩ := ka.later (bk.trans hu)
                          obtain ⟨x0, x1, x2⟩ := CI u (bk.trans hu)
                          obtain ⟨y0, y1, y2⟩ := CK u (bk.trans hu)
                          rcases (by omega : j = 0 ∨ j = 1 ∨ j = 2 ∨ j = 3 ∨ j = 4 ∨ j = 5 ∨ j = 6 ∨ j = 7 ∨ j = 8 ∨ j = 9 ∨ j = 10 ∨ j = 11 ∨ j = 12 ∨ j = 13 ∨ j = 14 ∨ j = 15 ∨ j = 16 ∨ j = 17 ∨ j = 18) with rfl | rfl | rfl | rfl | rfl | rfl | rfl | rfl | rfl | rfl | rfl | rfl | rfl | rfl | rfl | rfl | rfl | rfl | rfl
                          · simp only [List.getElem?_toArray, List.getElem?_cons_zero, List.getElem?_cons_succ, Option.some.injEq] at ho
                            subst ho
                            obtain rfl := Option.some.inj hdt
                            have i3 : act.eval (.tmp (3 : Nat)) = .pointer (some ⟨w2.heap.size, 0, none⟩) := hfr 3 (by decide)
                            exact plain_wp (by intro c h; cases h) (fun _ _ => trivial) (by simp only [execOp, i3, evalC, evalF, evalG]; simp [go_sem, s0]) ⟨_, rfl, rfl, Bl.refl _⟩
                          · simp only [List.getElem?_toArray, List.getElem?_cons_zero, List.getElem?_cons_succ, Option.some.injEq] at ho
                            subst ho
                            obtain rfl := Option.some.inj hdt
                            have i122 : (act.eval (.tmp (122 : Nat))) = .pointer (some ⟨w2.heap.size, 1, none⟩) := hin ⟨0, .data⟩ (by simp) rfl 122 rfl
                            exact plain_wp (by intro c h; cases h) (fun _ _ => trivial) (by simp only [execOp, i122, evalC, evalF, evalG]; simp [go_sem, s0, s1, s2, s3]) ⟨_, rfl, rfl, Bl.refl _⟩
                          · simp only [List.getElem?_toArray, List.getElem?_cons_zero, List.getElem?_cons_succ, Option.some.injEq] at ho
                            subst ho
                            obtain rfl := Option.some.inj hdt
                            have i12 : act.eval (.tmp (12 : Nat)) = .int .i64 ii := hfr 12 (by decide)
                            exact plain_wp (by intro c h; cases h) (fun _ _ => trivial) (by simp only [execOp, i12, evalC, evalF, evalG]; simp [go_sem, s0]) ⟨_, rfl, rfl, Bl.refl _⟩
                          · simp only [List.getElem?_toArray, List.getElem?_cons_zero, List.getElem?_cons_succ, Option.some.injEq] at ho
                            subst ho
                            obtain rfl := Option.some.inj hdt
                            have i14 : act.eval (.tmp (14 : Nat)) = .int .i64 kk := hfr 14 (by decide)
                            exact plain_wp (by intro c h; cases h) (fun _ _ => trivial) (by simp only [execOp, i14, evalC, evalF, evalG]; simp [go_sem, s0]) ⟨_, rfl, rfl, Bl.refl _⟩
                          · simp only [List.getElem?_toArray, List.getElem?_cons_zero, List.getElem?_cons_succ, Option.some.injEq] at ho
                            subst ho
                            obtain rfl := Option.some.inj hdt
                            have i123 : (act.eval (.tmp (123 : Nat))) = mV m m p2 N c2' := hin ⟨1, .data⟩ (by simp) rfl 123 rfl
                            have i124 : (act.eval (.tmp (124 : Nat))) = .int .i64 ii := hin ⟨2, .data⟩ (by simp) rfl 124 rfl
                            have i125 : (act.eval (.tmp (125 : Nat))) = .int .i64 kk := hin ⟨3, .data⟩ (by simp) rfl 125 rfl
                            refine enter_wp 18 #[mV m m p2 N c2', .int .i64 ii, .int .i64 kk] (by intro c h; cases h) (fun _ _ => trivial) (by simp only [execOp, evalC, evalF, evalG, resolve, i123, i124, i125, List.map_toArray, List.map_cons, List.map_nil]; simp [invoke, egT, Result.andThen, go_sem]) (by intro h; cases h) (callsIn_wide.2 (HAT.out u (bk.trans hu))) ?_
                            rintro e w' ⟨rfl, hb⟩
                            exact ⟨_, rfl, _, rfl, rfl, hb⟩
                          · simp only [List.getElem?_toArray, List.getElem?_cons_zero, List.getElem?_cons_succ, Option.some.injEq] at ho
                            subst ho
                            obtain rfl := Option.some.inj hdt
                            have i8 : act.eval (.tmp (8 : Nat)) = .slice (some ⟨gu, ou, none⟩) m uc := hfr 8 (by decide)
                            exact plain_wp (by intro c h; cases h) (fun _ _ => trivial) (by simp only [execOp, i8, evalC, evalF, evalG]; simp [go_sem, s0]) ⟨_, rfl, rfl, Bl.refl _⟩
                          · simp only [List.getElem?_toArray, List.getElem?_cons_zero, List.getElem?_cons_succ, Option.some.injEq] at ho
                            subst ho
                            obtain rfl := Option.some.inj hdt
                            have i12 : act.eval (.tmp (12 : Nat)) = .int .i64 ii := hfr 12 (by decide)
                            exact plain_wp (by intro c h; cases h) (fun _ _ => trivial) (by simp only [execOp, i12, evalC, evalF, evalG]; simp [go_sem, s0]) ⟨_, rfl, rfl, Bl.refl _⟩
                          · simp only [List.getElem?_toArray, List.getElem?_cons_zero, List.getElem?_cons_succ, Option.some.injEq] at ho
                            subst ho
                            obtain rfl := Option.some.inj hdt
                            have i127 : (act.eval (.tmp (127 : Nat))) = .slice (some ⟨gu, ou, none⟩) m uc := hin ⟨5, .data⟩ (by simp) rfl 127 rfl
                            have i128 : (act.eval (.tmp (128 : Nat))) = .int .i64 ii := hin ⟨6, .data⟩ (by simp) rfl 128 rfl
                            exact plain_wp (by intro c h; cases h) (fun _ _ => trivial) (by simp only [execOp, i127, i128, evalC, evalF, evalG]; simp [go_sem, hii, x0, x1, x2]) ⟨_, rfl, rfl, Bl.refl _⟩
                          · simp only [List.getElem?_toArray, List.getElem?_cons_zero, List.getElem?_cons_succ, Option.some.injEq] at ho
                            subst ho
                            obtain rfl := Option.some.inj hdt
                            have i129 : (act.eval (.tmp (129 : Nat))) = .pointer (some ⟨gu, ou + ii * 3, none⟩) := hin ⟨7, .data⟩ (by simp) rfl 129 rfl
                            exact plain_wp (by intro c h; cases h) (fun _ _ => trivial) (by simp only [execOp, i129, evalC, evalF, evalG]; simp [go_sem, x0, x1, x2]) ⟨_, rfl, rfl, Bl.refl _⟩
                          · simp only [List.getElem?_toArray, List.getElem?_cons_zero, List.getElem?_cons_succ, Option.some.injEq] at ho
                            subst ho
                            obtain rfl := Option.some.inj hdt
                            have i8 : act.eval (.tmp (8 : Nat)) = .slice (some ⟨gu, ou, none⟩) m uc := hfr 8 (by decide)
                            exact plain_wp (by intro c h; cases h) (fun _ _ => trivial) (by simp only [execOp, i8, evalC, evalF, evalG]; simp [go_sem, s0]) ⟨_, rfl, rfl, Bl.refl _⟩
                          · simp only [List.getElem?_toArray, List.getElem?_cons_zero, List.getElem?_cons_succ, Option.some.injEq] at ho
                            subst ho
                            obtain rfl := Option.some.inj hdt
                            have i14 : act.eval (.tmp (14 : Nat)) = .int .i64 kk := hfr 14 (by decide)
                            exact plain_wp (by intro c h; cases h) (fun _ _ => trivial) (by simp only [execOp, i14, evalC, evalF, evalG]; simp [go_sem, s0]) ⟨_, rfl, rfl, Bl.refl _⟩
                          · simp only [List.getElem?_toArray, List.getElem?_cons_zero, List.getElem?_cons_succ, Option.some.injEq] at ho
                            subst ho
                            obtain rfl := Option.some.inj hdt
                            have i131 : (act.eval (.tmp (131 : Nat))) = .slice (some ⟨gu, ou, none⟩) m uc := hin ⟨9, .data⟩ (by simp) rfl 131 rfl
                            have i132 : (act.eval (.tmp (132 : Nat))) = .int .i64 kk := hin ⟨10, .data⟩ (by simp) rfl 132 rfl
                            exact plain_wp (by intro c h; cases h) (fun _ _ => trivial) (by simp only [execOp, i131, i132, evalC, evalF, evalG]; simp [go_sem, hkk, y0, y1, y2]) ⟨_, rfl, rfl, Bl.refl _⟩
                          · simp only [List.getElem?_toArray, List.getElem?_cons_zero, List.getElem?_cons_succ, Option.some.injEq] at ho
                            subst ho
                            obtain rfl := Option.some.inj hdt
                            have i133 : (act.eval (.tmp (133 : Nat))) = .pointer (some ⟨gu, ou + kk * 3, none⟩) := hin ⟨11, .data⟩ (by simp) rfl 133 rfl
                            exact plain_wp (by intro c h; cases h) (fun _ _ => trivial) (by simp only [execOp, i133, evalC, evalF, evalG]; simp [go_sem, y0, y1, y2]) ⟨_, rfl, rfl, Bl.refl _⟩
                          · simp only [List.getElem?_toArray, List.getElem?_cons_zero, List.getElem?_cons_succ, Option.some.injEq] at ho
                            subst ho
                            obtain rfl := Option.some.inj hdt
                            have i130 : (act.eval (.tmp (130 : Nat))) = frV U := hin ⟨8, .data⟩ (by simp) rfl 130 rfl
                            have i134 : (act.eval (.tmp (134 : Nat))) = frV K := hin ⟨12, .data⟩ (by simp) rfl 134 rfl
                            refine enter_wp 16 #[frV U, frV K] (by intro c h; cases h) (fun _ _ => trivial) (by simp only [execOp, evalC, evalF, evalG, resolve, i130, i134, List.map_toArray, List.map_cons, List.map_nil]; simp [invoke, egU2, Result.andThen, go_sem]) (by intro h; cases h) (callsIn_wide.2 (HMU.out u)) ?_
                            rintro e w' ⟨rfl, hb⟩
                            exact ⟨_, rfl, _, rfl, rfl, hb⟩
                          · simp only [List.getElem?_toArray, List.getElem?_cons_zero, List.getElem?_cons_succ, Option.some.injEq] at ho
                            subst ho
                            obtain rfl := Option.some.inj hdt
                            have i11 : act.eval (.tmp (11 : Nat)) = .pointer (some ⟨ba, 0, none⟩) := hfr 11 (by decide)
                            exact plain_wp (by intro c h; cases h) (fun _ _ => trivial) (by simp only [execOp, i11, evalC, evalF, evalG]; simp [go_sem, a0, a1, a2]) ⟨_, rfl, rfl, Bl.refl _⟩
                          · simp only [List.getElem?_toArray, List.getElem?_cons_zero, List.getElem?_cons_succ, Option.some.injEq] at ho
                            subst ho
                            obtain rfl := Option.some.inj hdt
                            have i135 : (act.eval (.tmp (135 : Nat))) = frV UK := hin ⟨13, .data⟩ (by simp) rfl 135 rfl
                            have i136 : (act.eval (.tmp (136 : Nat))) = frV A := hin ⟨14, .data⟩ (by simp) rfl 136 rfl
                            refine enter_wp 17 #[frV UK, frV A] (by intro c h; cases h) (fun _ _ => trivial) (by simp only [execOp, evalC, evalF, evalG, resolve, i135, i136, List.map_toArray, List.map_cons, List.map_nil]; simp [invoke, egV, Result.andThen, go_sem]) (by intro h; cases h) (callsIn_wide.2 (HDV.out u)) ?_
                            rintro e w' ⟨rfl, hb⟩
                            exact ⟨_, rfl, _, rfl, rfl, hb⟩
                          · simp only [List.getElem?_toArray, List.getElem?_cons_zero, List.getElem?_cons_succ, Option.some.injEq] at ho
                            subst ho
                            obtain rfl := Option.some.inj hdt
                            have i126 : (act.eval (.tmp (126 : Nat))) = frV P := hin ⟨4, .data⟩ (by simp) rfl 126 rfl
                            have i137 : (act.eval (.tmp (137 : Nat))) = frV QK := hin ⟨15, .data⟩ (by simp) rfl 137 rfl
                            refine enter_wp 13 #[frV P, frV QK] (by intro c h; cases h) (fun _ _ => trivial) (by simp only [execOp, evalC, evalF, evalG, resolve, i126, i137, List.map_toArray, List.map_cons, List.map_nil]; simp [invoke, egB, Result.andThen, go_sem]) (by intro h; cases h) (callsIn_wide.2 (HSB.out u)) ?_
                            rintro e w' ⟨rfl, hb⟩
                            exact ⟨_, rfl, _, rfl, rfl, hb⟩
                          · simp only [List.getElem?_toArray, List.getElem?_cons_zero, List.getElem?_cons_succ, Option.some.injEq] at ho
                            subst ho
                            obtain rfl := Option.some.inj hdt
                            exact plain_wp (by intro c h; cases h) (fun _ _ => trivial) (w' := u.alloc (.cells #[.int .i64 0, .int .i64 0, .bool false] 35)) (v := .pointer (some ⟨u.heap.size, 0, none⟩)) (by simp only [execOp]; simp [go_sem]) ⟨_, rfl, ⟨u.heap.size, rfl, hu.size, FBox.new u zeroR _⟩, (Bl.refl _).alloc _⟩
                          · simp only [List.getElem?_toArray, List.getElem?_cons_zero, List.getElem?_cons_succ, Option.some.injEq] at ho
                            subst ho
                            cases hdt
                        case still =>
                          intro j o t act u0 u ho hdt hpu
                          cases hpu
                        case store =>
                          intro o act u vs ho hsz hu hfr hin
                          simp only [List.getElem?_toArray, List.getElem?_cons_zero, List.getElem?_cons_succ, Option.some.injEq] at ho
                          subst ho
                          obtain ⟨i15, k15⟩ : act.eval (.tmp (15 : Nat)) = vs 17 ∧ (∃ b, (vs 17) = .pointer (some ⟨b, 0, none⟩) ∧ wk.heap.size ≤ b ∧ FBox u b zeroR) := hin 17 15 rfl rfl
                          obtain ⟨i138, k138⟩ : act.eval (.tmp (138 : Nat)) = vs 16 ∧ ((vs 16) = frV PK) := hin 16 138 rfl rfl
                          obtain ⟨b, e1, hb, bx⟩ := k15
                          rw [e1] at i15
                          replace i138 := i138.trans k138
                          obtain ⟨d0, d1, d2, g0, g1, g2, ltb⟩ := id bx
                          exact skip_wp (by intro c h; cases h) (fun _ _ => trivial) (by simp only [execOp, i15, i138]; simp [go_sem, zeroR, d0, d1, d2, g0, g1, g2]) ⟨rfl, b, e1, hb, bx.fill _, Bl.set3 hu hb _ _ _⟩
                        case fin =>
                          intro vs vb u0 u hu hin hps
                          have a0 := hin 0 122 rfl
                          have a1 := hin 1 123 rfl
                          have a2 := hin 2 124 rfl
                          have a3 := hin 3 125 rfl
                          have a4 := hin 4 126 rfl
                          have a5 := hin 5 127 rfl
                          have a6 := hin 6 128 rfl
                          have a7 := hin 7 129 rfl
                          have a8 := hin 8 130 rfl
                          have a9 := hin 9 131 rfl
                          have a10 := hin 10 132 rfl
                          have a11 := hin 11 133 rfl
                          have a12 := hin 12 134 rfl
                          have a13 := hin 13 135 rfl
                          have a14 := hin 14 136 rfl
                          have a15 := hin 15 137 rfl
                          have a16 := hin 16 138 rfl
                          have a17 := hin 17 15 rfl
                          simp only [putL, Act.put, List.setIfInBounds_toArray, List.set_cons_zero, List.set_cons_succ, Nat.zero_add, Nat.reduceAdd, Nat.reduceBEq, Bool.or_false, Bool.or_true, Bool.false_or, Bool.true_or, Bool.false_eq_true, if_false, if_true, reduceIte, Nat.reduceEqDiff, beq_self_eq_true, Bool.or_self] at a0 a1 a2 a3 a4 a5 a6 a7 a8 a9 a10 a11 a12 a13 a14 a15 a16 a17 ⊢
                          rw [if_pos (by decide)] at hps
                          simp only [a0, a1, a2, a3, a4, a5, a6, a7, a8, a9, a10, a11, a12, a13, a14, a15, a16]
                          obtain ⟨b20, eb, hb, kb, hbu⟩ := hps
                          simp only [eb]
                          obtain ⟨wv, rfl⟩ : ∃ wv, wv = u := ⟨_, rfl⟩
                          have bv : Bl w9 wv := bk.trans hbu
                          clear hin a0 a1 a2 a3 a4 a5 a6 a7 a8 a9 a10 a11 a12 a13 a14 a15 a16 CI CK
                          obtain ⟨PT, hPT⟩ : ∃ y, y = (upPJ kdF (fun i j => wholeF (unitI i j)) m (squareJ kdF m (fun i k => wholeF (ofL m Ro i k))) (fun i => wholeF (H.getD i 0)) Rr) ii kk := ⟨_, rfl⟩
                          have KEY : PK.bad = true ∨ PT.bad = true ∨ PK = PT := by
                            rw [hPT, HPK.out, HQK.out, HUK.out, HP.out, HU.out, HK.out, HA.out]
                            exact std_pkey9 hii hkk (fun i k _ _ => by rw [sq_sym9])
                          have AT := hideP (fun zw : Wl wv => at_eq9 hPT zw.w ((HM5.out.later (b59.trans bv)).later zw.bl) hii hkk)
                          have t0 := fun zw : Wl wv => (k5.later ((b59.trans bv).trans zw.bl)).c0
                          have t1 := fun zw : Wl wv => (k5.later ((b59.trans bv).trans zw.bl)).c1
                          have t2 := fun zw : Wl wv => (k5.later ((b59.trans bv).trans zw.bl)).c2
                          have t3 := fun zw : Wl wv => (k5.later ((b59.trans bv).trans zw.bl)).c3
                          have z0 := fun zw : Wl wv => (kb.later zw.bl).c0
                          have z1 := fun zw : Wl wv => (kb.later zw.bl).c1
                          have z2 := fun zw : Wl wv => (kb.later zw.bl).c2
                          have sx := eql_selfV PK
                          have nx := neq_selfV PK
                          clear hPT HAT HMU HDV HSB HPK
                          have FDB := field_badR
                          obtain ⟨xn, xd, xb⟩ := PK
                          obtain ⟨yn, yd, yb⟩ := PT
                          have wne := wl_ne wv
                          dsimp only at z0 z1 z2 KEY
                          cases xb
                          · rcases KEY with h | h | hxy
                            · cases h
                            · subst h
                              clear sx nx
                              go_wp2_with fail
                              refine wl_region wv (Bl.refl _) (by kernel_rfl) (by kernel_rfl) ?_
                              repeat (go_big_quiet_step (first | (go_at_call 18; exact wl_call (AT.out _))))
                              refine wpQuiet_nil ?_
                              intro _ hw'
                              obtain ⟨zw, hw''⟩ := hw'
                              subst hw''
                              clear wne t0 t1 t2 t3 z0 z1 z2
                              obtain ⟨wz, hz⟩ := zw
                              dsimp only
                              go_wp2
                              go_roundw
                              case rel => exact ⟨kk + 1, by simp, hkk, bv.trans hz⟩
                              case measure => simp [intOf]; omega
                            · cases hxy
                              go_wp2_with fail
                              refine wl_region wv (Bl.refl _) (by kernel_rfl) (by kernel_rfl) ?_
                              repeat (go_big_quiet_step (first | (go_at_call 18; exact wl_call (AT.out _))))
                              refine wpQuiet_nil ?_
                              intro _ hw'
                              obtain ⟨zw, hw''⟩ := hw'
                              subst hw''
                              clear wne t0 t1 t2 t3 z0 z1 z2
                              obtain ⟨wz, hz⟩ := zw
                              dsimp only
                              go_wp2
                              go_roundw
                              case rel => exact ⟨kk + 1, by simp, hkk, bv.trans hz⟩
                              case measure => simp [intOf]; omega
                          · clear sx nx KEY
                            go_wp2_with fail
                            refine wl_region wv (Bl.refl _) (by kernel_rfl) (by kernel_rfl) ?_
                            repeat (go_big_quiet_step (first | (go_at_call 18; exact wl_call (AT.out _))))
                            refine wpQuiet_nil ?_
                            intro _ hw'
                            obtain ⟨zw, hw''⟩ := hw'
                            subst hw''
                            clear wne t0 t1 t2 t3 z0 z1 z2
                            obtain ⟨wz, hz⟩ := zw
                            dsimp only
                            go_wp2
                            go_roundw
                            case rel => exact ⟨kk + 1, by simp, hkk, bv.trans hz⟩
                            case measure => simp [intOf]; omega
                      · obtain rfl : kk = m := by omega
                        go_wp2
                        go_roundw
                        case rel => exact ⟨ii + 1, by simp, hii, bk⟩
                        case measure => simp [intOf]; omega
                  · cases hxy
                    go_wp2_with fail
                    refine wl_region wv (Bl.refl _) (by kernel_rfl) (by kernel_rfl) ?_
                    repeat (go_big_quiet_step (first | fail))
                    refine wpQuiet_nil ?_
                    intro _ hw'
                    obtain ⟨zw, hw''⟩ := hw'
                    subst hw''
                    clear wne t0 y0 y1 y2 z0 z1 z2
                    obtain ⟨wz, hz⟩ := zw
                    dsimp only
                    have bx1 : Bl w9 wz := bv.trans hz
                    obtain ⟨c0, c1, c2, c3, c4, c5, c6, c7⟩ := HC.out wz (b9w.trans bx1)
                    go_wp2_with fail
                    clear c0 c1 c2 c3 c4 c5 c6 c7
                    go_loopw [119] (fun v wr => ∃ kk : Nat, v = .int .i64 kk ∧ kk ≤ m ∧ Bl w9 wr) (fun v _ => m - (intOf v).toNat)
                    case atStart => exact ⟨0, rfl, Nat.zero_le _, bx1⟩
                    case round =>
                      obtain ⟨kk, rfl, hkm, bk'⟩ := hrel
                      obtain ⟨wk, hwk⟩ : ∃ wk : World, wk = wr := ⟨_, rfl⟩
                      subst hwk
                      have bk : Bl w9 wk := bk'
                      by_cases hkk : kk < m
                      · obtain ⟨K, hK⟩ : ∃ y, y = (appJ kdF m (squareJ kdF m (fun i k => wholeF (ofL m Ro i k))) (fun i => wholeF (H.getD i 0))) kk := ⟨_, rfl⟩
                        obtain ⟨P, hP⟩ : ∃ y, y = (squareJ kdF m (fun i k => wholeF (ofL m Ro i k))) ii kk := ⟨_, rfl⟩
                        obtain ⟨UK, hUK⟩ : ∃ y, y = mulR U K := ⟨_, rfl⟩
                        obtain ⟨QK, hQK⟩ : ∃ y, y = divR UK A := ⟨_, rfl⟩
                        obtain ⟨PK, hPK⟩ : ∃ y, y = subR P QK := ⟨_, rfl⟩
                        have HK := hideP hK
                        have HP := hideP hP
                        have HUK := hideP hUK
                        have HQK := hideP hQK
                        have HPK := hideP hPK
                        have HAT := hideP (fun u (hu : Bl w9 u) => at_eq9 hP u (HM2.out.later (b29.trans hu)) hii hkk)
                        have HMU := hideP (fun u => mul_eq9 hUK u)
                        have HDV := hideP (fun u => div_eq9 hQK u)
                        have HSB := hideP (fun u => sub_eq9 hPK u)
                        have CI := fun (u : World) (hu : Bl w9 u) => HCU.out u hu ii hii
                        have CK := fun (u : World) (hu : Bl w9 u) => HCU.out u hu kk hkk
                        rw [← HU.out] at CI
                        rw [← hK] at CK
                        clear hK hP hUK hQK hPK
                        go_wp2_with fail
                        refine (wpIn_wide (n := 8)).1 (region_q fm [some 122, some 123, some 124, some 125, some 126, some 127, some 128, some 129, some 130, some 131, some 132, some 133, some 134, some 135, some 136, some 137, some 138, some 15, none] (fun _ => false) 18 (by kernel_rfl) (by rfl)
                          (fun j v u => match j with | 0 => v = .pointer (some ⟨w2.heap.size, 1, none⟩) | 1 => v = mV m m p2 N c2' | 2 => v = .int .i64 ii | 3 => v = .int .i64 kk | 4 => v = frV P | 5 => v = .slice (some ⟨gu, ou, none⟩) m uc | 6 => v = .int .i64 ii | 7 => v = .pointer (some ⟨gu, ou + ii * 3, none⟩) | 8 => v = frV U | 9 => v = .slice (some ⟨gu, ou, none⟩) m uc | 10 => v = .int .i64 kk | 11 => v = .pointer (some ⟨gu, ou + kk * 3, none⟩) | 12 => v = frV K | 13 => v = frV UK | 14 => v = frV A | 15 => v = frV QK | 16 => v = frV PK | 17 => ∃ b, v = .pointer (some ⟨b, 0, none⟩) ∧ wk.heap.size ≤ b ∧ FBox u b zeroR | _ => False)
                          (by
                            intro j v u u' hb h
                            split at h <;> first | exact h | (obtain ⟨b, e, h1, h2⟩ := h; exact ⟨b, e, h1, h2.later hb⟩)) (fun vs u0 u => ∃ b, vs 17 = .pointer (some ⟨b, 0, none⟩) ∧ wk.heap.size ≤ b ∧ FBox u b PK ∧ Bl wk u) ?step ?still ?store ?fin)
                        case step =>
                          intro j o t act u ho hdt hpu hsz hu hfr hin
                          have hj : j < 19 := (Array.getElem?_eq_some_iff.1 ho).1
                          obtain ⟨s0, s1, s2, s3, _, _, _, _, _⟩ := k2.later ((b29.trans bk).trans hu)
                          obtain ⟨a0, a1, a2, _, _, _, _⟩ := ka.later (bk.trans hu)
                          obtain ⟨x0, x1, x2⟩ := CI u (bk.trans hu)
                          obtain ⟨y0, y1, y2⟩ := CK u (bk.trans hu)
                          rcases (by omega : j = 0 ∨ j = 1 ∨ j = 2 ∨ j = 3 ∨ j = 4 ∨ j = 5 ∨ j = 6 ∨ j = 7 ∨ j = 8 ∨ j = 9 ∨ j = 10 ∨ j = 11 ∨ j = 12 ∨ j = 13 ∨ j = 14 ∨ j = 15 ∨ j = 16 ∨ j = 17 ∨ j = 18) with rfl | rfl | rfl | rfl | rfl | rfl | rfl | rfl | rfl | rfl | rfl | rfl | rfl | rfl | rfl | rfl | rfl | rfl | rfl
                          · simp only [List.getElem?_toArray, List.getElem?_cons_zero, List.getElem?_cons_succ, Option.some.injEq] at ho
                            subst ho
                            obtain rfl := Option.some.inj hdt
                            have i3 : act.eval (.tmp (3 : Nat)) = .pointer (some ⟨w2.heap.size, 0, none⟩) := hfr 3 (by decide)
                            exact plain_wp (by intro c h; cases h) (fun _ _ => trivial) (by simp only [execOp, i3, evalC, evalF, evalG]; simp [go_sem, s0]) ⟨_, rfl, rfl, Bl.refl _⟩
                          · simp only [List.getElem?_toArray, List.getElem?_cons_zero, List.getElem?_cons_succ, Option.some.injEq] at ho
                            subst ho
                            obtain rfl := Option.some.inj hdt
                            have i122 : (act.eval (.tmp (122 : Nat))) = .pointer (some ⟨w2.heap.size, 1, none⟩) := hin ⟨0, .data⟩ (by simp) rfl 122 rfl
                            exact plain_wp (by intro c h; cases h) (fun _ _ => trivial) (by simp only [execOp, i122, evalC, evalF, evalG]; simp [go_sem, s0, s1, s2, s3]) ⟨_, rfl, rfl, Bl.refl _⟩
                          · simp only [List.getElem?_toArray, List.getElem?_cons_zero, List.getElem?_cons_succ, Option.some.injEq] at ho
                            subst ho
                            obtain rfl := Option.some.inj hdt
                            have i12 : act.eval (.tmp (12 : Nat)) = .int .i64 ii := hfr 12 (by decide)
                            exact plain_wp (by intro c h; cases h) (fun _ _ => trivial) (by simp only [execOp, i12, evalC, evalF, evalG]; simp [go_sem, s0]) ⟨_, rfl, rfl, Bl.refl _⟩
                          · simp only [List.getElem?_toArray, List.getElem?_cons_zero, List.getElem?_cons_succ, Option.some.injEq] at ho
                            subst ho
                            obtain rfl := Option.some.inj hdt
                            have i14 : act.eval (.tmp (14 : Nat)) = .int .i64 kk := hfr 14 (by decide)
                            exact plain_wp (by intro c h; cases h) (fun _ _ => trivial) (by simp only [execOp, i14, evalC, evalF, evalG]; simp [go_sem, s0]) ⟨_, rfl, rfl, Bl.refl _⟩
                          · simp only [List.getElem?_toArray, List.getElem?_cons_zero, List.getElem?_cons_succ, Option.some.injEq] at ho
                            subst ho
                            obtain rfl := Option.some.inj hdt
                            have i123 : (act.eval (.tmp (123 : Nat))) = mV m m p2 N c2' := hin ⟨1, .data⟩ (by simp) rfl 123 rfl
                            have i124 : (act.eval (.tmp (124 : Nat))) = .int .i64 ii := hin ⟨2, .data⟩ (by simp) rfl 124 rfl
                            have i125 : (act.eval (.tmp (125 : Nat))) = .int .i64 kk := hin ⟨3, .data⟩ (by simp) rfl 125 rfl
                            refine enter_wp 18 #[mV m m p2 N c2', .int .i64 ii, .int .i64 kk] (by intro c h; cases h) (fun _ _ => trivial) (by simp only [execOp, evalC, evalF, evalG, resolve, i123, i124, i125, List.map_toArray, List.map_cons, List.map_nil]; simp [invoke, egT, Result.andThen, go_sem]) (by intro h; cases h) (callsIn_wide.2 (HAT.out u (bk.trans hu))) ?_
                            rintro e w' ⟨rfl, hb⟩
                            exact ⟨_, rfl, _, rfl, rfl, hb⟩
                          · simp only [List.getElem?_toArray, List.getElem?_cons_zero, List.getElem?_cons_succ, Option.some.injEq] at ho
                            subst ho
                            obtain rfl := Option.some.inj hdt
                            have i8 : act.eval (.tmp (8 : Nat)) = .slice (some ⟨gu, ou, none⟩) m uc := hfr 8 (by decide)
                            exact plain_wp (by intro c h; cases h) (fun _ _ => trivial) (by simp only [execOp, i8, evalC, evalF, evalG]; simp [go_sem, s0]) ⟨_, rfl, rfl, Bl.refl _⟩
                          · simp only [List.getElem?_toArray, List.getElem?_cons_zero, List.getElem?_cons_succ, Option.some.injEq] at ho
                            subst ho
                            obtain rfl := Option.some.inj hdt
                            have i12 : act.eval (.tmp (12 : Nat)) = .int .i64 ii := hfr 12 (by decide)
                            exact plain_wp (by intro c h; cases h) (fun _ _ => trivial) (by simp only [execOp, i12, evalC, evalF, evalG]; simp [go_sem, s0]) ⟨_, rfl, rfl, Bl.refl _⟩
                          · simp only [List.getElem?_toArray, List.getElem?_cons_zero, List.getElem?_cons_succ, Option.some.injEq] at ho
                            subst ho
                            obtain rfl := Option.some.inj hdt
                            have i127 : (act.eval (.tmp (127 : Nat))) = .slice (some ⟨gu, ou, none⟩) m uc := hin ⟨5, .data⟩ (by simp) rfl 127 rfl
                            have i128 : (act.eval (.tmp (128 : Nat))) = .int .i64 ii := hin ⟨6, .data⟩ (by simp) rfl 128 rfl
                            exact plain_wp (by intro c h; cases h) (fun _ _ => trivial) (by simp only [execOp, i127, i128, evalC, evalF, evalG]; simp [go_sem, hii, x0, x1, x2]) ⟨_, rfl, rfl, Bl.refl _⟩
                          · simp only [List.getElem?_toArray, List.getElem?_cons_zero, List.getElem?_cons_succ, Option.some.injEq] at ho
                            subst ho
                            obtain rfl := Option.some.inj hdt
                            have i129 : (act.eval (.tmp (129 : Nat))) = .pointer (some ⟨gu, ou + ii * 3, none⟩) := hin ⟨7, .data⟩ (by simp) rfl 129 rfl
                            exact plain_wp (by intro c h; cases h) (fun _ _ => trivial) (by simp only [execOp, i129, evalC, evalF, evalG]; simp [go_sem, x0, x1, x2]) ⟨_, rfl, rfl, Bl.refl _⟩
                          · simp only [List.getElem?_toArray, List.getElem?_cons_zero, List.getElem?_cons_succ, Option.some.injEq] at ho
                            subst ho
                            obtain rfl := Option.some.inj hdt
                            have i8 : act.eval (.tmp (8 : Nat)) = .slice (some ⟨gu, ou, none⟩) m uc := hfr 8 (by decide)
                            exact plain_wp (by intro c h; cases h) (fun _ _ => trivial) (by simp only [execOp, i8, evalC, evalF, evalG]; simp [go_sem, s0]) ⟨_, rfl, rfl, Bl.refl _⟩
                          · simp only [List.getElem?_toArray, List.getElem?_cons_zero, List.getElem?_cons_succ, Option.some.injEq] at ho
                            subst ho
                            obtain rfl := Option.some.inj hdt
                            have i14 : act.eval (.tmp (14 : Nat)) = .int .i64 kk := hfr 14 (by decide)
                            exact plain_wp (by intro c h; cases h) (fun _ _ => trivial) (by simp only [execOp, i14, evalC, evalF, evalG]; simp [go_sem, s0]) ⟨_, rfl, rfl, Bl.refl _⟩
                          · simp only [List.getElem?_toArray, List.getElem?_cons_zero, List.getElem?_cons_succ, Option.some.injEq] at ho
                            subst ho
                            obtain rfl := Option.some.inj hdt
                            have i131 : (act.eval (.tmp (131 : Nat))) = .slice (some ⟨gu, ou, none⟩) m uc := hin ⟨9, .data⟩ (by simp) rfl 131 rfl
                            have i132 : (act.eval (.tmp (132 : Nat))) = .int .i64 kk := hin ⟨10, .data⟩ (by simp) rfl 132 rfl
                            exact plain_wp (by intro c h; cases h) (fun _ _ => trivial) (by simp only [execOp, i131, i132, evalC, evalF, evalG]; simp [go_sem, hkk, y0, y1, y2]) ⟨_, rfl, rfl, Bl.refl _⟩
                          · simp only [List.getElem?_toArray, List.getElem?_cons_zero, List.getElem?_cons_succ, Option.some.injEq] at ho
                            subst ho
                            obtain rfl := Option.some.inj hdt
                            have i133 : (act.eval (.tmp (133 : Nat))) = .pointer (some ⟨gu, ou + kk * 3, none⟩) := hin ⟨11, .data⟩ (by simp) rfl 133 rfl
                            exact plain_wp (by intro c h; cases h) (fun _ _ => trivial) (by simp only [execOp, i133, evalC, evalF, evalG]; simp [go_sem, y0, y1, y2]) ⟨_, rfl, rfl, Bl.refl _⟩
                          · simp only [List.getElem?_toArray, List.getElem?_cons_zero, List.getElem?_cons_succ, Option.some.injEq] at ho
                            subst ho
                            obtain rfl := Option.some.inj hdt
                            have i130 : (act.eval (.tmp (130 : Nat))) = frV U := hin ⟨8, .data⟩ (by simp) rfl 130 rfl
                            have i134 : (act.eval (.tmp (134 : Nat))) = frV K := hin ⟨12, .data⟩ (by simp) rfl 134 rfl
                            refine enter_wp 16 #[frV U, frV K] (by intro c h; cases h) (fun _ _ => trivial) (by simp only [execOp, evalC, evalF, evalG, resolve, i130, i134, List.map_toArray, List.map_cons, List.map_nil]; simp [invoke, egU2, Result.andThen, go_sem]) (by intro h; cases h) (callsIn_wide.2 (HMU.out u)) ?_
                            rintro e w' ⟨rfl, hb⟩
                            exact ⟨_, rfl, _, rfl, rfl, hb⟩
                          · simp only [List.getElem?_toArray, List.getElem?_cons_zero, List.getElem?_cons_succ, Option.some.injEq] at ho
                            subst ho
                            obtain rfl := Option.some.inj hdt
                            have i11 : act.eval (.tmp (11 : Nat)) = .pointer (some ⟨ba, 0, none⟩) := hfr 11 (by decide)
                            exact plain_wp (by intro c h; cases h) (fun _ _ => trivial) (by simp only [execOp, i11, evalC, evalF, evalG]; simp [go_sem, a0, a1, a2]) ⟨_, rfl, rfl, Bl.refl _⟩
                          · simp only [List.getElem?_toArray, List.getElem?_cons_zero, List.getElem?_cons_succ, Option.some.injEq] at ho
                            subst ho
                            obtain rfl := Option.some.inj hdt
                            have i135 : (act.eval (.tmp (135 : Nat))) = frV UK := hin ⟨13, .data⟩ (by simp) rfl 135 rfl
                            have i136 : (act.eval (.tmp (136 : Nat))) = frV A := hin ⟨14, .data⟩ (by simp) rfl 136 rfl
                            refine enter_wp 17 #[frV UK, frV A] (by intro c h; cases h) (fun _ _ => trivial) (by simp only [execOp, evalC, evalF, evalG, resolve, i135, i136, List.map_toArray, List.map_cons, List.map_nil]; simp [invoke, egV, Result.andThen, go_sem]) (by intro h; cases h) (callsIn_wide.2 (HDV.out u)) ?_
                            rintro e w' ⟨rfl, hb⟩
                            exact ⟨_, rfl, _, rfl, rfl, hb⟩
                          · simp only [List.getElem?_toArray, List.getElem?_cons_zero, List.getElem?_cons_succ, Option.some.injEq] at ho
                            subst ho
                            obtain rfl := Option.some.inj hdt
                            have i126 : (act.eval (.tmp (126 : Nat))) = frV P := hin ⟨4, .data⟩ (by simp) rfl 126 rfl
                            have i137 : (act.eval (.tmp (137 : Nat))) = frV QK := hin ⟨15, .data⟩ (by simp) rfl 137 rfl
                            refine enter_wp 13 #[frV P, frV QK] (by intro c h; cases h) (fun _ _ => trivial) (by simp only [execOp, evalC, evalF, evalG, resolve, i126, i137, List.map_toArray, List.map_cons, List.map_nil]; simp [invoke, egB, Result.andThen, go_sem]) (by intro h; cases h) (callsIn_wide.2 (HSB.out u)) ?_
                            rintro e w' ⟨rfl, hb⟩
                            exact ⟨_, rfl, _, rfl, rfl, hb⟩
                          · simp only [List.getElem?_toArray, List.getElem?_cons_zero, List.getElem?_cons_succ, Option.some.injEq] at ho
                            subst ho
                            obtain rfl := Option.some.inj hdt
                            exact plain_wp (by intro c h; cases h) (fun _ _ => trivial) (w' := u.alloc (.cells #[.int .i64 0, .int .i64 0, .bool false] 35)) (v := .pointer (some ⟨u.heap.size, 0, none⟩)) (by simp only [execOp]; simp [go_sem]) ⟨_, rfl, ⟨u.heap.size, rfl, hu.size, FBox.new u zeroR _⟩, (Bl.refl _).alloc _⟩
                          · simp only [List.getElem?_toArray, List.getElem?_cons_zero, List.getElem?_cons_succ, Option.some.injEq] at ho
                            subst ho
                            cases hdt
                        case still =>
                          intro j o t act u0 u ho hdt hpu
                          cases hpu
                        case store =>
                          intro o act u vs ho hsz hu hfr hin
                          simp only [List.getElem?_toArray, List.getElem?_cons_zero, List.getElem?_cons_succ, Option.some.injEq] at ho
                          subst ho
                          obtain ⟨i15, k15⟩ : act.eval (.tmp (15 : Nat)) = vs 17 ∧ (∃ b, (vs 17) = .pointer (some ⟨b, 0, none⟩) ∧ wk.heap.size ≤ b ∧ FBox u b zeroR) := hin 17 15 rfl rfl
                          obtain ⟨i138, k138⟩ : act.eval (.tmp (138 : Nat)) = vs 16 ∧ ((vs 16) = frV PK) := hin 16 138 rfl rfl
                          obtain ⟨b, e1, hb, bx⟩ := k15
                          rw [e1] at i15
                          replace i138 := i138.trans k138
                          obtain ⟨d0, d1, d2, g0, g1, g2, ltb⟩ := id bx
                          exact skip_wp (by intro c h; cases h) (fun _ _ => trivial) (by simp only [execOp, i15, i138]; simp [go_sem, zeroR, d0, d1, d2, g0, g1, g2]) ⟨rfl, b, e1, hb, bx.fill _, Bl.set3 hu hb _ _ _⟩
                        case fin =>
                          intro vs vb u0 u hu hin hps
                          have a0 := hin 0 122 rfl
                          have a1 := hin 1 123 rfl
                          have a2 := hin 2 124 rfl
                          have a3 := hin 3 125 rfl
                          have a4 := hin 4 126 rfl
                          have a5 := hin 5 127 rfl
                          have a6 := hin 6 128 rfl
                          have a7 := hin 7 129 rfl
                          have a8 := hin 8 130 rfl
                          have a9 := hin 9 131 rfl
                          have a10 := hin 10 132 rfl
                          have a11 := hin 11 133 rfl
                          have a12 := hin 12 134 rfl
                          have a13 := hin 13 135 rfl
                          have a14 := hin 14 136 rfl
                          have a15 := hin 15 137 rfl
                          have a16 := hin 16 138 rfl
                          have a17 := hin 17 15 rfl
                          simp only [putL, Act.put, List.setIfInBounds_toArray, List.set_cons_zero, List.set_cons_succ, Nat.zero_add, Nat.reduceAdd, Nat.reduceBEq, Bool.or_false, Bool.or_true, Bool.false_or, Bool.true_or, Bool.false_eq_true, if_false, if_true, reduceIte, Nat.reduceEqDiff, beq_self_eq_true, Bool.or_self] at a0 a1 a2 a3 a4 a5 a6 a7 a8 a9 a10 a11 a12 a13 a14 a15 a16 a17 ⊢
                          rw [if_pos (by decide)] at hps
                          simp only [a0, a1, a2, a3, a4, a5, a6, a7, a8, a9, a10, a11, a12, a13, a14, a15, a16]
                          obtain ⟨b20, eb, hb, kb, hbu⟩ := hps
                          simp only [eb]
                          obtain ⟨wv, rfl⟩ : ∃ wv, wv = u := ⟨_, rfl⟩
                          have bv : Bl w9 wv := bk.trans hbu
                          clear hin a0 a1 a2 a3 a4 a5 a6 a7 a8 a9 a10 a11 a12 a13 a14 a15 a16 CI CK
                          obtain ⟨PT, hPT⟩ : ∃ y, y = (upPJ kdF (fun i j => wholeF (unitI i j)) m (squareJ kdF m (fun i k => wholeF (ofL m Ro i k))) (fun i => wholeF (H.getD i 0)) Rr) ii kk := ⟨_, rfl⟩
                          have KEY : PK.bad = true ∨ PT.bad = true ∨ PK = PT := by
                            rw [hPT, HPK.out, HQK.out, HUK.out, HP.out, HU.out, HK.out, HA.out]
                            exact std_pkey9 hii hkk (fun i k _ _ => by rw [sq_sym9])
                          have AT := hideP (fun zw : Wl wv => at_eq9 hPT zw.w ((HM5.out.later (b59.trans bv)).later zw.bl) hii hkk)
                          have t0 := fun zw : Wl wv => (k5.later ((b59.trans bv).trans zw.bl)).c0
                          have t1 := fun zw : Wl wv => (k5.later ((b59.trans bv).trans zw.bl)).c1
                          have t2 := fun zw : Wl wv => (k5.later ((b59.trans bv).trans zw.bl)).c2
                          have t3 := fun zw : Wl wv => (k5.later ((b59.trans bv).trans zw.bl)).c3
                          have z0 := fun zw : Wl wv => (kb.later zw.bl).c0
                          have z1 := fun zw : Wl wv => (kb.later zw.bl).c1
                          have z2 := fun zw : Wl wv => (kb.later zw.bl).c2
                          have sx := eql_selfV PK
                          have nx := neq_selfV PK
                          clear hPT HAT HMU HDV HSB HPK
                          have FDB := field_badR
                          obtain ⟨xn, xd, xb⟩ := PK
                          obtain ⟨yn, yd, yb⟩ := PT
                          have wne := wl_ne wv
                          dsimp only at z0 z1 z2 KEY
                          cases xb
                          · rcases KEY with h | h | hxy
                            · cases h
                            · subst h
                              clear sx nx
                              go_wp2_with fail
                              refine wl_region wv (Bl.refl _) (by kernel_rfl) (by kernel_rfl) ?_
                              repeat (go_big_quiet_step (first | (go_at_call 18; exact wl_call (AT.out _))))
                              refine wpQuiet_nil ?_
                              intro _ hw'
                              obtain ⟨zw, hw''⟩ := hw'
                              subst hw''
                              clear wne t0 t1 t2 t3 z0 z1 z2
                              obtain ⟨wz, hz⟩ := zw
                              dsimp only
                              go_wp2
                              go_roundw
                              case rel => exact ⟨kk + 1, by simp, hkk, bv.trans hz⟩
                              case measure => simp [intOf]; omega
                            · cases hxy
                              go_wp2_with fail
                              refine wl_region wv (Bl.refl _) (by kernel_rfl) (by kernel_rfl) ?_
                              repeat (go_big_quiet_step (first | (go_at_call 18; exact wl_call (AT.out _))))
                              refine wpQuiet_nil ?_
                              intro _ hw'
                              obtain ⟨zw, hw''⟩ := hw'
                              subst hw''
                              clear wne t0 t1 t2 t3 z0 z1 z2
                              obtain ⟨wz, hz⟩ := zw
                              dsimp only
                              go_wp2
                              go_roundw
                              case rel => exact ⟨kk + 1, by simp, hkk, bv.trans hz⟩
                              case measure => simp [intOf]; omega
                          · clear sx nx KEY
                            go_wp2_with fail
                            refine wl_region wv (Bl.refl _) (by kernel_rfl) (by kernel_rfl) ?_
                            repeat (go_big_quiet_step (first | (go_at_call 18; exact wl_call (AT.out _))))
                            refine wpQuiet_nil ?_
                            intro _ hw'
                            obtain ⟨zw, hw''⟩ := hw'
                            subst hw''
                            clear wne t0 t1 t2 t3 z0 z1 z2
                            obtain ⟨wz, hz⟩ := zw
                            dsimp only
                            go_wp2
                            go_roundw
                            case rel => exact ⟨kk + 1, by simp, hkk, bv.trans hz⟩
                            case measure => simp [intOf]; omega
                      · obtain rfl : kk = m := by omega
                        go_wp2
                        go_roundw
                        case rel => exact ⟨ii + 1, by simp, hii, bk⟩
                        case measure => simp [intOf]; omega
                · clear sx nx KEY
                  go_wp2_with fail
                  refine wl_region wv (Bl.refl _) (by kernel_rfl) (by kernel_rfl) ?_
                  repeat (go_big_quiet_step (first | fail))
                  refine wpQuiet_nil ?_
                  intro _ hw'
                  obtain ⟨zw, hw''⟩ := hw'
                  subst hw''
                  clear wne t0 y0 y1 y2 z0 z1 z2
                  obtain ⟨wz, hz⟩ := zw
                  dsimp only
                  have bx1 : Bl w9 wz := bv.trans hz
                  obtain ⟨c0, c1, c2, c3, c4, c5, c6, c7⟩ := HC.out wz (b9w.trans bx1)
                  go_wp2_with fail
                  clear c0 c1 c2 c3 c4 c5 c6 c7
                  go_loopw [119] (fun v wr => ∃ kk : Nat, v = .int .i64 kk ∧ kk ≤ m ∧ Bl w9 wr) (fun v _ => m - (intOf v).toNat)
                  case atStart => exact ⟨0, rfl, Nat.zero_le _, bx1⟩
                  case round =>
                    obtain ⟨kk, rfl, hkm, bk'⟩ := hrel
                    obtain ⟨wk, hwk⟩ : ∃ wk : World, wk = wr := ⟨_, rfl⟩
                    subst hwk
                    have bk : Bl w9 wk := bk'
                    by_cases hkk : kk < m
                    · obtain ⟨K, hK⟩ : ∃ y, y = (appJ kdF m (squareJ kdF m (fun i k => wholeF (ofL m Ro i k))) (fun i => wholeF (H.getD i 0))) kk := ⟨_, rfl⟩
                      obtain ⟨P, hP⟩ : ∃ y, y = (squareJ kdF m (fun i k => wholeF (ofL m Ro i k))) ii kk := ⟨_, rfl⟩
                      obtain ⟨UK, hUK⟩ : ∃ y, y = mulR U K := ⟨_, rfl⟩
                      obtain ⟨QK, hQK⟩ : ∃ y, y = divR UK A := ⟨_, rfl⟩
                      obtain ⟨PK, hPK⟩ : ∃ y, y = subR P QK := ⟨_, rfl⟩
                      have HK := hideP hK
                      have HP := hideP hP
                      have HUK := hideP hUK
                      have HQK := hideP hQK
                      have HPK := hideP hPK
                      have HAT := hideP (fun u (hu : Bl w9 u) => at_eq9 hP u (HM2.out.later (b29.trans hu)) hii hkk)
                      have HMU := hideP (fun u => mul_eq9 hUK u)
                      have HDV := hideP (fun u => div_eq9 hQK u)
                      have HSB := hideP (fun u => sub_eq9 hPK u)
                      have CI := fun (u : World) (hu : Bl w9 u) => HCU.out u hu ii hii
                      have CK := fun (u : World) (hu : Bl w9 u) => HCU.out u hu kk hkk
                      rw [← HU.out] at CI
                      rw [← hK] at CK
                      clear hK hP hUK hQK hPK
                      go_wp2_with fail
                      refine (wpIn_wide (n := 8)).1 (region_q fm [some 122, some 123, some 124, some 125, some 126, some 127, some 128, some 129, some 130, some 131, some 132, some 133, some 134, some 135, some 136, some 137, some 138, some 15, none] (fun _ => false) 18 (by kernel_rfl) (by rfl)
                        (fun j v u => match j with | 0 => v = .pointer (some ⟨w2.heap.size, 1, none⟩) | 1 => v = mV m m p2 N c2' | 2 => v = .int .i64 ii | 3 => v = .int .i64 kk | 4 => v = frV P | 5 => v = .slice (some ⟨gu, ou, none⟩) m uc | 6 => v = .int .i64 ii | 7 => v = .pointer (some ⟨gu, ou + ii * 3, none⟩) | 8 => v = frV U | 9 => v = .slice (some ⟨gu, ou, none⟩) m uc | 10 => v = .int .i64 kk | 11 => v = .pointer (some ⟨gu, ou + kk * 3, none⟩) | 12 => v = frV K | 13 => v = frV UK | 14 => v = frV A | 15 => v = frV QK | 16 => v = frV PK | 17 => ∃ b, v = .pointer (some ⟨b, 0, none⟩) ∧ wk.heap.size ≤ b ∧ FBox u b zeroR | _ => False)
                        (by
                          intro j v u u' hb h
                          split at h <;> first | exact h | (obtain ⟨b, e, h1, h2⟩ := h; exact ⟨b, e, h1, h2.later hb⟩)) (fun vs u0 u => ∃ b, vs 17 = .pointer (some ⟨b, 0, none⟩) ∧ wk.heap.size ≤ b ∧ FBox u b PK ∧ Bl wk u) ?step ?still ?store ?fin)
                      case step =>
                        intro j o t act u ho hdt hpu hsz hu hfr hin
                        have hj : j < 19 := (Array.getElem?_eq_some_iff.1 ho).1
                        obtain ⟨s0, s1, s2, s3, _, _, _, _, _⟩ := k2.later ((b29.trans bk).trans hu)
                        obtain ⟨a0, a1, a2, _, _, _, _⟩ := ka.later (bk.trans hu)
                        obtain ⟨x0, x1, x2⟩ := CI u (bk.trans hu)
                        obtain ⟨y0, y1, y2⟩ := CK u (bk.trans hu)
                        rcases (by omega : j = 0 ∨ j = 1 ∨ j = 2 ∨ j = 3 ∨ j = 4 ∨ j = 5 ∨ j = 6 ∨ j = 7 ∨ j = 8 ∨ j = 9 ∨ j = 10 ∨ j = 11 ∨ j = 12 ∨ j = 13 ∨ j = 14 ∨ j = 15 ∨ j = 16 ∨ j = 17 ∨ j = 18) with rfl | rfl | rfl | rfl | rfl | rfl | rfl | rfl | rfl | rfl | rfl | rfl | rfl | rfl | rfl | rfl | rfl | rfl | rfl
                        · simp only [List.getElem?_toArray, List.getElem?_cons_zero, List.getElem?_cons_succ, Option.some.injEq] at ho
                          subst ho
                          obtain rfl := Option.some.inj hdt
                          have i3 : act.eval (.tmp (3 : Nat)) = .pointer (some ⟨w2.heap.size, 0, none⟩) := hfr 3 (by decide)
                          exact plain_wp (by intro c h; cases h) (fun _ _ => trivial) (by simp only [execOp, i3, evalC, evalF, evalG]; simp [go_sem, s0]) ⟨_, rfl, rfl, Bl.refl _⟩
                        · simp only [List.getElem?_toArray, List.getElem?_cons_zero, List.getElem?_cons_succ, Option.some.injEq] at ho
                          subst ho
                          obtain rfl := Option.some.inj hdt
                          have i122 : (act.eval (.tmp (122 : Nat))) = .pointer (some ⟨w2.heap.size, 1, none⟩) := hin ⟨0, .data⟩ (by simp) rfl 122 rfl
                          exact plain_wp (by intro c h; cases h) (fun _ _ => trivial) (by simp only [execOp, i122, evalC, evalF, evalG]; simp [go_sem, s0, s1, s2, s3]) ⟨_, rfl, rfl, Bl.refl _⟩
                        · simp only [List.getElem?_toArray, List.getElem?_cons_zero, List.getElem?_cons_succ, Option.some.injEq] at ho
                          subst ho
                          obtain rfl := Option.some.inj hdt
                          have i12 : act.eval (.tmp (12 : Nat)) = .int .i64 ii := hfr 12 (by decide)
                          exact plain_wp (by intro c h; cases h) (fun _ _ => trivial) (by simp only [execOp, i12, evalC, evalF, evalG]; simp [go_sem, s0]) ⟨_, rfl, rfl, Bl.refl _⟩
                        · simp only [List.getElem?_toArray, List.getElem?_cons_zero, List.getElem?_cons_succ, Option.some.injEq] at ho
                          subst ho
                          obtain rfl := Option.some.inj hdt
                          have i14 : act.eval (.tmp (14 : Nat)) = .int .i64 kk := hfr 14 (by decide)
                          exact plain_wp (by intro c h; cases h) (fun _ _ => trivial) (by simp only [execOp, i14, evalC, evalF, evalG]; simp [go_sem, s0]) ⟨_, rfl, rfl, Bl.refl _⟩
                        · simp only [List.getElem?_toArray, List.getElem?_cons_zero, List.getElem?_cons_succ, Option.some.injEq] at ho
                          subst ho
                          obtain rfl := Option.some.inj hdt
                          have i123 : (act.eval (.tmp (123 : Nat))) = mV m m p2 N c2' := hin ⟨1, .data⟩ (by simp) rfl 123 rfl
                          have i124 : (act.eval (.tmp (124 : Nat))) = .int .i64 ii := hin ⟨2, .data⟩ (by simp) rfl 124 rfl
                          have i125 : (act.eval (.tmp (125 : Nat))) = .int .i64 kk := hin ⟨3, .data⟩ (by simp) rfl 125 rfl
                          refine enter_wp 18 #[mV m m p2 N c2', .int .i64 ii, .int .i64 kk] (by intro c h; cases h) (fun _ _ => trivial) (by simp only [execOp, evalC, evalF, evalG, resolve, i123, i124, i125, List.map_toArray, List.map_cons, List.map_nil]; simp [invoke, egT, Result.andThen, go_sem]) (by intro h; cases h) (callsIn_wide.2 (HAT.out u (bk.trans hu))) ?_
                          rintro e w' ⟨rfl, hb⟩
                          exact ⟨_, rfl, _, rfl, rfl, hb⟩
                        · simp only [List.getElem?_toArray, List.getElem?_cons_zero, List.getElem?_cons_succ, Option.some.injEq] at ho
                          subst ho
                          obtain rfl := Option.some.inj hdt
                          have i8 : act.eval (.tmp (8 : Nat)) = .slice (some ⟨gu, ou, none⟩) m uc := hfr 8 (by decide)
                          exact plain_wp (by intro c h; cases h) (fun _ _ => trivial) (by simp only [execOp, i8, evalC, evalF, evalG]; simp [go_sem, s0]) ⟨_, rfl, rfl, Bl.refl _⟩
                        · simp only [List.getElem?_toArray, List.getElem?_cons_zero, List.getElem?_cons_succ, Option.some.injEq] at ho
                          subst ho
                          obtain rfl := Option.some.inj hdt
                          have i12 : act.eval (.tmp (12 : Nat)) = .int .i64 ii := hfr 12 (by decide)
                          exact plain_wp (by intro c h; cases h) (fun _ _ => trivial) (by simp only [execOp, i12, evalC, evalF, evalG]; simp [go_sem, s0]) ⟨_, rfl, rfl, Bl.refl _⟩
                        · simp only [List.getElem?_toArray, List.getElem?_cons_zero, List.getElem?_cons_succ, Option.some.injEq] at ho
                          subst ho
                          obtain rfl := Option.some.inj hdt
                          have i127 : (act.eval (.tmp (127 : Nat))) = .slice (some ⟨gu, ou, none⟩) m uc := hin ⟨5, .data⟩ (by simp) rfl 127 rfl
                          have i128 : (act.eval (.tmp (128 : Nat))) = .int .i64 ii := hin ⟨6, .data⟩ (by simp) rfl 128 rfl
                          exact plain_wp (by intro c h; cases h) (fun _ _ => trivial) (by simp only [execOp, i127, i128, evalC, evalF, evalG]; simp [go_sem, hii, x0, x1, x2]) ⟨_, rfl, rfl, Bl.refl _⟩
                        · simp only [List.getElem?_toArray, List.getElem?_cons_zero, List.getElem?_cons_succ, Option.some.injEq] at ho
                          subst ho
                          obtain rfl := Option.some.inj hdt
                          have i129 : (act.eval (.tmp (129 : Nat))) = .pointer (some ⟨gu, ou + ii * 3, none⟩) := hin ⟨7, .data⟩ (by simp) rfl 129 rfl
                          exact plain_wp (by intro c h; cases h) (fun _ _ => trivial) (by simp only [execOp, i129, evalC, evalF, evalG]; simp [go_sem, x0, x1, x2]) ⟨_, rfl, rfl, Bl.refl _⟩
                        · simp only [List.getElem?_toArray, List.getElem?_cons_zero, List.getElem?_cons_succ, Option.some.injEq] at ho
                          subst ho
                          obtain rfl := Option.some.inj hdt
                          have i8 : act.eval (.tmp (8 : Nat)) = .slice (some ⟨gu, ou, none⟩) m uc := hfr 8 (by decide)
                          exact plain_wp (by intro c h; cases h) (fun _ _ => trivial) (by simp only [execOp, i8, evalC, evalF, evalG]; simp [go_sem, s0]) ⟨_, rfl, rfl, Bl.refl _⟩
                        · simp only [List.getElem?_toArray, List.getElem?_cons_zero, List.getElem?_cons_succ, Option.some.injEq] at ho
                          subst ho
                          obtain rfl := Option.some.inj hdt
                          have i14 : act.eval (.tmp (14 : Nat)) = .int .i64 kk := hfr 14 (by decide)
                          exact plain_wp (by intro c h; cases h) (fun _ _ => trivial) (by simp only [execOp, i14, evalC, evalF, evalG]; simp [go_sem, s0]) ⟨_, rfl, rfl, Bl.refl _⟩
                        · simp only [List.getElem?_toArray, List.getElem?_cons_zero, List.getElem?_cons_succ, Option.some.injEq] at ho
                          subst ho
                          obtain rfl := Option.some.inj hdt
                          have i131 : (act.eval (.tmp (131 : Nat))) = .slice (some ⟨gu, ou, none⟩) m uc := hin ⟨9, .data⟩ (by simp) rfl 131 rfl
                          have i132 : (act.eval (.tmp (132 : Nat))) = .int .i64 kk := hin ⟨10, .data⟩ (by simp) rfl 132 rfl
                          exact plain_wp (by intro c h; cases h) (fun _ _ => trivial) (by simp only [execOp, i131, i132, evalC, evalF, evalG]; simp [go_sem, hkk, y0, y1, y2]) ⟨_, rfl, rfl, Bl.refl _⟩
                        · simp only [List.getElem?_toArray, List.getElem?_cons_zero, List.getElem?_cons_succ, Option.some.injEq] at ho
                          subst ho
                          obtain rfl := Option.some.inj hdt
                          have i133 : (act.eval (.tmp (133 : Nat))) = .pointer (some ⟨gu, ou + kk * 3, none⟩) := hin ⟨11, .data⟩ (by simp) rfl 133 rfl
                          exact plain_wp (by intro c h; cases h) (fun _ _ => trivial) (by simp only [execOp, i133, evalC, evalF, evalG]; simp [go_sem, y0, y1, y2]) ⟨_, rfl, rfl, Bl.refl _⟩
                        · simp only [List.getElem?_toArray, List.getElem?_cons_zero, List.getElem?_cons_succ, Option.some.injEq] at ho
                          subst ho
                          obtain rfl := Option.some.inj hdt
                          have i130 : (act.eval (.tmp (130 : Nat))) = frV U := hin ⟨8, .data⟩ (by simp) rfl 130 rfl
                          have i134 : (act.eval (.tmp (134 : Nat))) = frV K := hin ⟨12, .data⟩ (by simp) rfl 134 rfl
                          refine enter_wp 16 #[frV U, frV K] (by intro c h; cases h) (fun _ _ => trivial) (by simp only [execOp, evalC, evalF, evalG, resolve, i130, i134, List.map_toArray, List.map_cons, List.map_nil]; simp [invoke, egU2, Result.andThen, go_sem]) (by intro h; cases h) (callsIn_wide.2 (HMU.out u)) ?_
                          rintro e w' ⟨rfl, hb⟩
                          exact ⟨_, rfl, _, rfl, rfl, hb⟩
                        · simp only [List.getElem?_toArray, List.getElem?_cons_zero, List.getElem?_cons_succ, Option.some.injEq] at ho
                          subst ho
                          obtain rfl := Option.some.inj hdt
                          have i11 : act.eval (.tmp (11 : Nat)) = .pointer (some ⟨ba, 0, none⟩) := hfr 11 (by decide)
                          exact plain_wp (by intro c h; cases h) (fun _ _ => trivial) (by simp only [execOp, i11, evalC, evalF, evalG]; simp [go_sem, a0, a1, a2]) ⟨_, rfl, rfl, Bl.refl _⟩
                        · simp only [List.getElem?_toArray, List.getElem?_cons_zero, List.getElem?_cons_succ, Option.some.injEq] at ho
                          subst ho
                          obtain rfl := Option.some.inj hdt
                          have i135 : (act.eval (.tmp (135 : Nat))) = frV UK := hin ⟨13, .data⟩ (by simp) rfl 135 rfl
                          have i136 : (act.eval (.tmp (136 : Nat))) = frV A := hin ⟨14, .data⟩ (by simp) rfl 136 rfl
                          refine enter_wp 17 #[frV UK, frV A] (by intro c h; cases h) (fun _ _ => trivial) (by simp only [execOp, evalC, evalF, evalG, resolve, i135, i136, List.map_toArray, List.map_cons, List.map_nil]; simp [invoke, egV, Result.andThen, go_sem]) (by intro h; cases h) (callsIn_wide.2 (HDV.out u)) ?_
                          rintro e w' ⟨rfl, hb⟩
                          exact ⟨_, rfl, _, rfl, rfl, hb⟩
                        · simp only [List.getElem?_toArray, List.getElem?_cons_zero, List.getElem?_cons_succ, Option.some.injEq] at ho
                          subst ho
                          obtain rfl := Option.some.inj hdt
                          have i126 : (act.eval (.tmp (126 : Nat))) = frV P := hin ⟨4, .data⟩ (by simp) rfl 126 rfl
                          have i137 : (act.eval (.tmp (137 : Nat))) = frV QK := hin ⟨15, .data⟩ (by simp) rfl 137 rfl
                          refine enter_wp 13 #[frV P, frV QK] (by intro c h; cases h) (fun _ _ => trivial) (by simp only [execOp, evalC, evalF, evalG, resolve, i126, i137, List.map_toArray, List.map_cons, List.map_nil]; simp [invoke, egB, Result.andThen, go_sem]) (by intro h; cases h) (callsIn_wide.2 (HSB.out u)) ?_
                          rintro e w' ⟨rfl, hb⟩
                          exact ⟨_, rfl, _, rfl, rfl, hb⟩
                        · simp only [List.getElem?_toArray, List.getElem?_cons_zero, List.getElem?_cons_succ, Option.some.injEq] at ho
                          subst ho
                          obtain rfl := Option.some.inj hdt
                          exact plain_wp (by intro c h; cases h) (fun _ _ => trivial) (w' := u.alloc (.cells #[.int .i64 0, .int .i64 0, .bool false] 35)) (v := .pointer (some ⟨u.heap.size, 0, none⟩)) (by simp only [execOp]; simp [go_sem]) ⟨_, rfl, ⟨u.heap.size, rfl, hu.size, FBox.new u zeroR _⟩, (Bl.refl _).alloc _⟩
                        · simp only [List.getElem?_toArray, List.getElem?_cons_zero, List.getElem?_cons_succ, Option.some.injEq] at ho
                          subst ho
                          cases hdt
                      case still =>
                        intro j o t act u0 u ho hdt hpu
                        cases hpu
                      case store =>
                        intro o act u vs ho hsz hu hfr hin
                        simp only [List.getElem?_toArray, List.getElem?_cons_zero, List.getElem?_cons_succ, Option.some.injEq] at ho
                        subst ho
                        obtain ⟨i15, k15⟩ : act.eval (.tmp (15 : Nat)) = vs 17 ∧ (∃ b, (vs 17) = .pointer (some ⟨b, 0, none⟩) ∧ wk.heap.size ≤ b ∧ FBox u b zeroR) := hin 17 15 rfl rfl
                        obtain ⟨i138, k138⟩ : act.eval (.tmp (138 : Nat)) = vs 16 ∧ ((vs 16) = frV PK) := hin 16 138 rfl rfl
                        obtain ⟨b, e1, hb, bx⟩ := k15
                        rw [e1] at i15
                        replace i138 := i138.trans k138
                        obtain ⟨d0, d1, d2, g0, g1, g2, ltb⟩ := id bx
                        exact skip_wp (by intro c h; cases h) (fun _ _ => trivial) (by simp only [execOp, i15, i138]; simp [go_sem, zeroR, d0, d1, d2, g0, g1, g2]) ⟨rfl, b, e1, hb, bx.fill _, Bl.set3 hu hb _ _ _⟩
                      case fin =>
                        intro vs vb u0 u hu hin hps
                        have a0 := hin 0 122 rfl
                        have a1 := hin 1 123 rfl
                        have a2 := hin 2 124 rfl
                        have a3 := hin 3 125 rfl
                        have a4 := hin 4 126 rfl
                        have a5 := hin 5 127 rfl
                        have a6 := hin 6 128 rfl
                        have a7 := hin 7 129 rfl
                        have a8 := hin 8 130 rfl
                        have a9 := hin 9 131 rfl
                        have a10 := hin 10 132 rfl
                        have a11 := hin 11 133 rfl
                        have a12 := hin 12 134 rfl
                        have a13 := hin 13 135 rfl
                        have a14 := hin 14 136 rfl
                        have a15 := hin 15 137 rfl
                        have a16 := hin 16 138 rfl
                        have a17 := hin 17 15 rfl
                        simp only [putL, Act.put, List.setIfInBounds_toArray, List.set_cons_zero, List.set_cons_succ, Nat.zero_add, Nat.reduceAdd, Nat.reduceBEq, Bool.or_false, Bool.or_true, Bool.false_or, Bool.true_or, Bool.false_eq_true, if_false, if_true, reduceIte, Nat.reduceEqDiff, beq_self_eq_true, Bool.or_self] at a0 a1 a2 a3 a4 a5 a6 a7 a8 a9 a10 a11 a12 a13 a14 a15 a16 a17 ⊢
                        rw [if_pos (by decide)] at hps
                        simp only [a0, a1, a2, a3, a4, a5, a6, a7, a8, a9, a10, a11, a12, a13, a14, a15, a16]
                        obtain ⟨b20, eb, hb, kb, hbu⟩ := hps
                        simp only [eb]
                        obtain ⟨wv, rfl⟩ : ∃ wv, wv = u := ⟨_, rfl⟩
                        have bv : Bl w9 wv := bk.trans hbu
                        clear hin a0 a1 a2 a3 a4 a5 a6 a7 a8 a9 a10 a11 a12 a13 a14 a15 a16 CI CK
                        obtain ⟨PT, hPT⟩ : ∃ y, y = (upPJ kdF (fun i j => wholeF (unitI i j)) m (squareJ kdF m (fun i k => wholeF (ofL m Ro i k))) (fun i => wholeF (H.getD i 0)) Rr) ii kk := ⟨_, rfl⟩
                        have KEY : PK.bad = true ∨ PT.bad = true ∨ PK = PT := by
                          rw [hPT, HPK.out, HQK.out, HUK.out, HP.out, HU.out, HK.out, HA.out]
                          exact std_pkey9 hii hkk (fun i k _ _ => by rw [sq_sym9])
                        have AT := hideP (fun zw : Wl wv => at_eq9 hPT zw.w ((HM5.out.later (b59.trans bv)).later zw.bl) hii hkk)
                        have t0 := fun zw : Wl wv => (k5.later ((b59.trans bv).trans zw.bl)).c0
                        have t1 := fun zw : Wl wv => (k5.later ((b59.trans bv).trans zw.bl)).c1
                        have t2 := fun zw : Wl wv => (k5.later ((b59.trans bv).trans zw.bl)).c2
                        have t3 := fun zw : Wl wv => (k5.later ((b59.trans bv).trans zw.bl)).c3
                        have z0 := fun zw : Wl wv => (kb.later zw.bl).c0
                        have z1 := fun zw : Wl wv => (kb.later zw.bl).c1
                        have z2 := fun zw : Wl wv => (kb.later zw.bl).c2
                        have sx := eql_selfV PK
                        have nx := neq_selfV PK
                        clear hPT HAT HMU HDV HSB HPK
                        have FDB := field_badR
                        obtain ⟨xn, xd, xb⟩ := PK
                        obtain ⟨yn, yd, yb⟩ := PT
                        have wne := wl_ne wv
                        dsimp only at z0 z1 z2 KEY
                        cases xb
                        · rcases KEY with h | h | hxy
                          · cases h
                          · subst h
                            clear sx nx
                            go_wp2_with fail
                            refine wl_region wv (Bl.refl _) (by kernel_rfl) (by kernel_rfl) ?_
                            repeat (go_big_quiet_step (first | (go_at_call 18; exact wl_call (AT.out _))))
                            refine wpQuiet_nil ?_
                            intro _ hw'
                            obtain ⟨zw, hw''⟩ := hw'
                            subst hw''
                            clear wne t0 t1 t2 t3 z0 z1 z2
                            obtain ⟨wz, hz⟩ := zw
                            dsimp only
                            go_wp2
                            go_roundw
                            case rel => exact ⟨kk + 1, by simp, hkk, bv.trans hz⟩
                            case measure => simp [intOf]; omega
                          · cases hxy
                            go_wp2_with fail
                            refine wl_region wv (Bl.refl _) (by kernel_rfl) (by kernel_rfl) ?_
                            repeat (go_big_quiet_step (first | (go_at_call 18; exact wl_call (AT.out _))))
                            refine wpQuiet_nil ?_
                            intro _ hw'
                            obtain ⟨zw, hw''⟩ := hw'
                            subst hw''
                            clear wne t0 t1 t2 t3 z0 z1 z2
                            obtain ⟨wz, hz⟩ := zw
                            dsimp only
                            go_wp2
                            go_roundw
                            case rel => exact ⟨kk + 1, by simp, hkk, bv.trans hz⟩
                            case measure => simp [intOf]; omega
                        · clear sx nx KEY
                          go_wp2_with fail
                          refine wl_region wv (Bl.refl _) (by kernel_rfl) (by kernel_rfl) ?_
                          repeat (go_big_quiet_step (first | (go_at_call 18; exact wl_call (AT.out _))))
                          refine wpQuiet_nil ?_
                          intro _ hw'
                          obtain ⟨zw, hw''⟩ := hw'
                          subst hw''
                          clear wne t0 t1 t2 t3 z0 z1 z2
                          obtain ⟨wz, hz⟩ := zw
                          dsimp only
                          go_wp2
                          go_roundw
                          case rel => exact ⟨kk + 1, by simp, hkk, bv.trans hz⟩
                          case measure => simp [intOf]; omega
                    · obtain rfl : kk = m := by omega
                      go_wp2
                      go_roundw
                      case rel => exact ⟨ii + 1, by simp, hii, bk⟩
                      case measure => simp [intOf]; omega
            · obtain rfl : ii = m := by omega
              have AW' := hideP (fun zw : Wl wq => AW.out zw.w)
              obtain ⟨m0, m1', m2, m3', m4, m5, _, _, _, _, _, _, _⟩ := n5.later (b59.trans bi)
              obtain ⟨e0, e1, e2, _, _, _, _⟩ := ke.later (b89.trans bi)
              obtain ⟨a0, a1, a2, _, _, _, _⟩ := ka.later bi
              have se := eql_selfV E
              have sa := eql_selfV A
              go_wp2_with fail
              refine (AW.out _).mono ?_
              rintro e w99 ⟨rfl, h99⟩
              clear m0 m1' m2 m3' m4 m5 e0 e1 e2 a0 a1 a2
              go_wp2
              go_ret
              exact ⟨rfl, (B2.trans (b29.trans bi)).trans h99⟩
end Go.Proofs.Ythnadgbloamlaaa

/- A slice of whole numbers as an argument: opened. -/
namespace Go.Proofs.Ythnadgbloamlaaa
open Go.ChangeShapes Go.WideShapes Go.ChangeAt Go.RowKit
set_option linter.unusedVariables false

theorem Try.cellsInt : Try.prog.cellsOf 3 = 1 := by kernel_rfl
theorem cell_block_lt {W : World} {b o : Nat} {v : Value} (h : W.cell? ⟨b, o, none⟩ = some v) : b < W.heap.size := by
  rcases Nat.lt_or_ge b W.heap.size with h' | h'
  · exact h'
  · have : W.heap[b]? = none := Array.getElem?_eq_none h'
    simp [World.cell?, this] at h
set_option maxRecDepth 1000000 in
theorem open_row {H : Type} {enc : TypeId × Value → H} {W : World} {b0 : Nat} {v : Value} {d : DataW H} {p : List MemPlace}
    (hv : Value.okWide Try.prog W .any b0 22 v) (h : DataW.Trod enc Try.prog W 0 (fun _ => true) true 22 v d p) : ∃ ns : List Int, Rq 1 cI W v ns ∧ ∀ n ∈ ns, (Lit.int .i64 n).wf = true := by
  obtain ⟨a0, len, cap, rfl⟩ := okWide_slice Try.underlying22 hv
  obtain ⟨fuel, hf⟩ := h
  rcases open_ints Try.underlying22 Try.underlying3 Try.cellsInt hf with ⟨hcs, hx⟩ | ⟨a, len', cap', zs, hcs, _, hl, hm, hz, hx, hcell, hwz⟩
  · simp [Value.cells] at hcs
    obtain ⟨rfl, rfl, rfl⟩ := hcs
    exact ⟨[], .inl ⟨none, 0, rfl, rfl, fun _ => rfl⟩, fun n hn => by simp at hn⟩
  · simp [Value.cells] at hcs
    obtain ⟨rfl, rfl, rfl⟩ := hcs
    simp only [if_true] at hz
    refine ⟨zs.take len, ?_, fun n hn => hwz n (List.mem_of_mem_take hn)⟩
    by_cases h0 : len = 0
    · subst h0
      exact .inl ⟨some a, cap, rfl, by simp, nofun⟩
    · have c0 := hcell 0 (by omega)
      obtain ⟨b, off, rfl, hc⟩ := ints_at hcell (by omega)
      have hb : b < W.heap.size := by
        have := hc 0 (by omega)
        exact cell_block_lt this
      have hll : (zs.take len).length = len := by simp; omega
      refine .inr ⟨b, off, cap, by rw [hll], by omega, hb, fun j x hj k u hu => ?_⟩
      rcases k with _ | k
      · simp at hu
        subst hu
        have hj2 := (List.getElem?_eq_some_iff.1 hj).1
        have := hc j (by omega)
        rw [List.getElem?_take] at hj
        split at hj
        · have e : zs.getD j 0 = x := by simp [List.getD, hj]
          rw [e] at this
          simpa using this
        · cases hj
      · simp at hu
end Go.Proofs.Ythnadgbloamlaaa

/- A case of layer 9's laws as an argument: opened. -/
namespace Go.Proofs.Ythnadgbloamlaaa
open Go.ChangeShapes Go.WideShapes Go.ChangeAt Go.RowKit Go.Joins
set_option linter.unusedVariables false

/-- A case as a value. -/
abbrev caseV (n : Int) (x root f g h : Value) (r z : Int) : Value := .agg #[.int .i64 n, x, root, f, g, h, .int .i64 r, .int .i64 z]
theorem array8 {α : Type} {cs : Array α} (h : cs.size = 8) : ∃ c0 c1 c2 c3 c4 c5 c6 c7, cs = #[c0, c1, c2, c3, c4, c5, c6, c7] := by
  obtain ⟨l⟩ := cs
  match l, h with
  | [c0, c1, c2, c3, c4, c5, c6, c7], _ => exact ⟨c0, c1, c2, c3, c4, c5, c6, c7, rfl⟩
theorem cellsCase : Try.prog.cellsOf 24 = 8 := by kernel_rfl
set_option maxRecDepth 1000000 in
theorem row_trod {H : Type} {enc : TypeId × Value → H} {W : World} {n : Nat} {v : Value} {y : DataW H × List MemPlace}
    (hf : DataW.trod enc Try.prog W 0 (fun _ => true) true n 22 [v] = some y) : ∃ ns : List Int, Rq 1 cI W v ns ∧ ∀ n ∈ ns, (Lit.int .i64 n).wf = true := by
  obtain ⟨d, p⟩ := y
  rcases open_ints Try.underlying22 Try.underlying3 Try.cellsInt hf with ⟨hcs, hx⟩ | ⟨a, len', cap', zs, hcs, _, hl, hm, hz, hx, hcell, hwz⟩
  · simp at hcs
    subst hcs
    exact ⟨[], .inl ⟨none, 0, rfl, rfl, fun _ => rfl⟩, fun n hn => by simp at hn⟩
  · simp at hcs
    subst hcs
    simp only [if_true] at hz
    refine ⟨zs.take len', ?_, fun n hn => hwz n (List.mem_of_mem_take hn)⟩
    by_cases h0 : len' = 0
    · subst h0
      exact .inl ⟨some a, cap', rfl, by simp, nofun⟩
    · have c0 := hcell 0 (by omega)
      obtain ⟨b, off, rfl, hc⟩ := ints_at hcell (by omega)
      have hb : b < W.heap.size := by
        have := hc 0 (by omega)
        exact cell_block_lt this
      have hll : (zs.take len').length = len' := by simp; omega
      refine .inr ⟨b, off, cap', by rw [hll], by omega, hb, fun j x hj k u hu => ?_⟩
      rcases k with _ | k
      · simp at hu
        subst hu
        have hj2 := (List.getElem?_eq_some_iff.1 hj).1
        have := hc j (by omega)
        rw [List.getElem?_take] at hj
        split at hj
        · have e : zs.getD j 0 = x := by simp [List.getD, hj]
          rw [e] at this
          simpa using this
        · cases hj
      · simp at hu
set_option maxRecDepth 1000000 in
theorem open_case {H : Type} {enc : TypeId × Value → H} {W : World} {b0 : Nat} {v : Value} {d : DataW H} {p : List MemPlace}
    (hv : Value.okWide Try.prog W .any b0 24 v) (h : DataW.Trod enc Try.prog W 0 (fun _ => true) true 24 v d p) :
    ∃ (n r z : Int) (x root f g h' : Value) (X Root F G H' : List Int), v = caseV n x root f g h' r z ∧ Rq 1 cI W x X ∧ Rq 1 cI W root Root ∧ Rq 1 cI W f F ∧ Rq 1 cI W g G ∧ Rq 1 cI W h' H' := by
  obtain ⟨cs, rfl, hsz⟩ := okWide_struct Try.underlying24 hv
  obtain ⟨c0, c1, c2, c3, c4, c5, c6, c7, rfl⟩ := array8 (hsz.trans cellsCase)
  obtain ⟨fuel, hf⟩ := h
  obtain ⟨xs, n, _, hxx, hl, hlen, hall⟩ := DataW.trod_struct Try.underlying24 hf
  match xs, hlen with
  | [y0, y1, y2, y3, y4, y5, y6, y7], _ =>
    have h0 := hall 0 _ rfl
    have h1 := hall 1 _ rfl
    have h2 := hall 2 _ rfl
    have h3 := hall 3 _ rfl
    have h4 := hall 4 _ rfl
    have h5 := hall 5 _ rfl
    have h6 := hall 6 _ rfl
    have h7 := hall 7 _ rfl
    simp only [Value.cells] at h0 h1 h2 h3 h4 h5 h6 h7
    simp at h0 h1 h2 h3 h4 h5 h6 h7
    have k1 : Try.prog.cellsOf 3 = 1 := by kernel_rfl
    have k2 : Try.prog.cellsOf 22 = 1 := by kernel_rfl
    rw [k1] at h0 h6 h7
    rw [k2] at h1 h2 h3 h4 h5
    simp only [List.take_succ_cons, List.take_zero] at h0 h1 h2 h3 h4 h5 h6 h7
    obtain ⟨n0, e0, _, _⟩ := DataW.trod_int Try.underlying3 h0
    obtain ⟨r0, e6, _, _⟩ := DataW.trod_int Try.underlying3 h6
    obtain ⟨z0, e7, _, _⟩ := DataW.trod_int Try.underlying3 h7
    obtain ⟨X, hX, _⟩ := row_trod h1
    obtain ⟨Root, hRoot, _⟩ := row_trod h2
    obtain ⟨F, hF, _⟩ := row_trod h3
    obtain ⟨G, hG, _⟩ := row_trod h4
    obtain ⟨H', hH, _⟩ := row_trod h5
    simp only [List.cons.injEq, and_true] at e0 e6 e7
    subst e0 e6 e7
    exact ⟨n0, r0, z0, c1, c2, c3, c4, c5, X, Root, F, G, H', rfl, hX, hRoot, hF, hG, hH⟩
end Go.Proofs.Ythnadgbloamlaaa

/- In fractions P behind an update is P less the column u times the row u, by the spread; X is X and u scaled by the surprise by it. Conditions: none (every input). -/
namespace Go.Proofs.Ythnadgbloamlaaa
open Go.ChangeShapes Go.WideShapes Go.ChangeAt Go.RowKit
set_option linter.unusedVariables false

theorem own_JosephStandard : ownKnob Try.prog.godebug = none := by kernel_rfl
theorem laid_JosephStandard : laidOutB Try.prog = true := by kernel_rfl
set_option maxRecDepth 100000 in
theorem lifted_JosephStandard (os : Os) (started : os.Started) (H : Type) (enc : TypeId × Value → H) :
    ReturnsInHanded {} Try.checked os 3 .any (Rows.josephStandardSpec.pre6 enc Try.prog Try.f3 Rows.josephStandardRow.domain false) (Rows.josephStandardSpec.post enc Try.prog Try.f3 false true false false) := by
  refine returnsInHanded_of_change (C := Try.checked) own_JosephStandard started (by kernel_rfl) Try.func3
    (ChangeSpec.witness6 (enc := enc) (C := Try.checked) false ⟨#[], #[.agg #[.int .i64 0, .slice none 0 0, .slice none 0 0, .slice none 0 0, .slice none 0 0, .slice none 0 0, .int .i64 0, .int .i64 0]], []⟩ 8 (by kernel_rfl) (by kernel_rfl) (by kernel_rfl) (by kernel_rfl)) ?_
  intro W base args ds gs before hval0 hW hcnd _
  have hval : ∀ (j : Nat) t v, Try.f3.params[j]? = some t → args[j]? = some v → Value.okWide Try.prog W .any base t v := hval0
  have hW' := hW
  obtain ⟨p, q, hA0, hV, rfl, hfz, hnd⟩ := hW
  have hA : DataW.TrodAll enc Try.prog W 0 (fun _ => true) true Try.f3.params.toList args.toList ds p := hA0
  rw [Try.params3] at hA hval
  obtain ⟨v0, vs0, d0, ds0, p0, q0, hargs, rfl, rfl, h0, r0⟩ := trodAll_cons hA
  obtain ⟨rfl, rfl, rfl⟩ := trodAll_nil r0
  obtain rfl : args = #[v0] := by cases args; simp_all
  obtain ⟨rfl, rfl⟩ := trodVars_none hV
  have hltA := fun x hx => hW'.lt x hx
  obtain ⟨n0, r0x, z0, x0, o0, f0, g0, k0, X0, O0, F0, G0, K0, e0, R0a, R0b, R0c, R0d, R0e⟩ := open_case (hval 0 24 v0 rfl rfl) h0
  subst e0
  clear hA0 hval0
  refine (walk_JosephStandard n0 r0x z0 x0 o0 f0 g0 k0 X0 O0 F0 G0 K0 W R0a R0b R0c R0d R0e).mono fun e W' ⟨he, bel⟩ => ?_
  subst he
  exact ⟨_, rfl, _, _, _, [], _, [], hW', trodAll_mk1 (shut_bool Try.underlying4 _), (trodAll_cons_mk (Below.trod laid_JosephStandard (by kernel_rfl) (of_decide_eq_true (by kernel_rfl)) h0 bel (fun x hx => by have := hltA x (by simp [hx]); simpa using this)) trodAll_mk0), rfl, Below.frame bel _, fun h => by cases h⟩

theorem proved_JosephStandard : Rows.JosephStandardSaid :=
  OpenClaim.holds_of_wide 3 Try.f3 rfl rfl rfl rfl rfl rfl rfl ⟨rfl, rfl, rfl, rfl, rfl⟩ rfl rfl rfl rfl rfl (by kernel_rfl) Try.func3 (by kernel_rfl)
    (of_decide_eq_true (by kernel_rfl)) (by unfold Func.isWrapper; first | (rw [if_pos (by decide +kernel)]; kernel_rfl) | (rw [if_neg (by decide +kernel)]; exact ⟨rfl, rfl⟩))
    (fun os started H enc _ => lifted_JosephStandard os started H enc)
#print axioms proved_JosephStandard
end Go.Proofs.Ythnadgbloamlaaa
