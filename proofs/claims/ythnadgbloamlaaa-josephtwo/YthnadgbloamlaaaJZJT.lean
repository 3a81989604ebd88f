/- Two measurements tell, in fractions, the same P whichever comes first. Conditions: none (every input). -/
import Derived.Test.YthnadgbloamlaaaHsM
import Derived.Test.YthnadgbloamlaaaJB
import Derived.Test.YthnadgbloamlaaaJA
import Derived.Test.YthnadgbloamlaaaJC
import Derived.Test.YthnadgbloamlaaaVeAF
import Derived.Test.YthnadgbloamlaaaJD
import Derived.ProofKit
import Derived.OpenShut
import Derived.Lib.SmallJoins
import Derived.Carry
/- Where a fold's triangle is fine, in fractions, its square is the square of what was folded (layer 8, HouseExact). Mathematics alone. -/
namespace Go.Proofs.Ythnadgbloamlaaa
open Go.RowKit
set_option linter.unusedSimpArgs false
set_option linter.unusedVariables false

/-- Fractions, as a kind. -/
theorem neg_q {a : Fr} (h : fineR (negR a) = true) : fineR a = true ∧ toQ (negR a) = -toQ a := by
  obtain ⟨_, h2, h3⟩ := sub_q (a := zR) (b := a) h
  refine ⟨h2, ?_⟩
  rw [show negR a = subR zR a from rfl, h3, toQ_z]
  grind
theorem z_q : toQ (wholeF 0) = 0 := new0_q
theorem tailH_q (m k : Nat) (f : Nat → Fr) : (tailH m k f).map toQ = (List.range (m - k)).map fun j => toQ (f (k + j)) := by unfold tailH; rw [List.map_map]; rfl
theorem dot_tail {m k : Nat} {f g : Nat → Fr} (h : fineR (dotF (tailH m k f) (tailH m k g)) = true) : (∀ c, k ≤ c → c < m → fineR (f c) = true ∧ fineR (g c) = true) ∧ toQ (dotF (tailH m k f) (tailH m k g)) = dT m k (fun c => toQ (f c)) (fun c => toQ (g c)) := by
  obtain ⟨h1, h2⟩ := dot_q h
  refine ⟨fun c h3 h4 => ?_, ?_⟩
  · have hm : mulR (f c) (g c) ∈ List.zipWith mulR (tailH m k f) (tailH m k g) := by
      refine List.mem_of_getElem? (i := c - k) ?_
      unfold tailH
      rw [List.getElem?_zipWith, List.getElem?_map, List.getElem?_map, List.getElem?_range (by omega)]
      simp [show k + (c - k) = c by omega]
    have := mul_q (h1 _ hm)
    exact ⟨this.1, this.2.1⟩
  · rw [h2, tailH_q, tailH_q, dotQ_sumH]
    rfl
/-- A row that has one number alone, at k. -/
theorem dT_one {m k : Nat} {f g : Nat → Rat} (hk : k < m) (h : ∀ c, k < c → c < m → f c = 0) : dT m k f g = f k * g k := by
  unfold dT
  obtain ⟨d, hd⟩ : ∃ d, m - k = 1 + d := ⟨m - k - 1, by omega⟩
  rw [hd, sumH_split]
  rw [sumH_zero d (fun j hj => by rw [h (k + (1 + j)) (by omega) (by omega), Rat.zero_mul])]
  show (0 : Rat) + f (k + 0) * g (k + 0) + 0 = _
  rw [Nat.add_zero, Rat.zero_add, Rat.add_zero]
theorem dT_zero {m k : Nat} {f g : Nat → Rat} (h : ∀ c, k ≤ c → c < m → f c = 0) : dT m k f g = 0 :=
  sumH_zero _ fun j hj => by rw [h (k + j) (by omega) (by omega), Rat.zero_mul]
theorem dT_congr {m k : Nat} {f g f' g' : Nat → Rat} (h : ∀ c, k ≤ c → c < m → f c = f' c) (h2 : ∀ c, k ≤ c → c < m → g c = g' c) : dT m k f g = dT m k f' g' :=
  sumH_congr _ fun j hj => by rw [h (k + j) (by omega) (by omega), h2 (k + j) (by omega) (by omega)]

theorem fold_all {n m : Nat} (hnm : n ≤ m) (σ τ : Nat → Bool) (a : Nat → Nat → Fr) (hT : ∀ i j, i < n → j ≤ i → fineR (foldH kdF n m σ τ a i j) = true) :
    ∀ i j, i < n → j < n → sumH n (fun c => toQ (foldH kdF n m σ τ a i c) * toQ (foldH kdF n m σ τ a j c)) = sumH m fun c => toQ (a i c) * toQ (a j c) := by
  obtain ⟨A, hA⟩ : ∃ A, A = foldTo kdF m σ a := ⟨_, rfl⟩
  have step : ∀ k i j, A (k + 1) i j = foldStep kdF m k (σ k) (A k) i j := fun k i j => by rw [hA]; rfl
  -- what stands below the diagonal at the end
  have an : ∀ i c, i < n → c ≤ i → fineR (A n i c) = true := fun i c hi hc => by
    have h := hT i c hi hc
    unfold foldH signsH at h
    rw [if_neg (by omega), ← hA] at h
    by_cases hl : c ≤ i ∧ τ c = true
    · rw [if_pos hl] at h
      exact (neg_q h).1
    · rw [if_neg hl] at h
      exact h
  have stay : ∀ i c k, i < k ∨ (c < k ∧ c < i) → ∀ d, A (k + d) i c = A k i c := fun i c k h d => by rw [hA]; exact foldTo_stays kdF m σ a h d
  have zero : ∀ i c k, i < k → i < c → A k i c = wholeF 0 := fun i c k h h2 => by rw [hA]; exact foldTo_zero kdF m σ a h h2
  have pk : ∀ k, A (k + 1) k k = pH kdF m k (σ k) (A k) := fun k => by rw [step]; unfold foldStep; rw [if_pos rfl, if_pos rfl]
  have hp : ∀ k, k < n → fineR (pH kdF m k (σ k) (A k)) = true := fun k hk => by
    obtain ⟨d, rfl⟩ := Nat.exists_eq_add_of_le (show k + 1 ≤ n from hk)
    have := an k k (by omega) (Nat.le_refl _)
    rw [stay k k (k + 1) (.inl (by omega)) d, pk] at this
    exact this
  -- the root
  have hroot : ∀ k, k < n → (∀ c, k ≤ c → c < m → fineR (A k k c) = true) ∧ toQ (pH kdF m k (σ k) (A k)) * toQ (pH kdF m k (σ k) (A k)) = dT m k (fun c => toQ (A k k c)) (fun c => toQ (A k k c)) := fun k hk => by
    have h := hp k hk
    obtain ⟨s, hs⟩ : ∃ s, s = rootR (dotF (tailH m k (A k k)) (tailH m k (A k k))) := ⟨_, rfl⟩
    have hps : fineR s = true ∧ toQ (pH kdF m k (σ k) (A k)) * toQ (pH kdF m k (σ k) (A k)) = toQ s * toQ s := by
      unfold pH at h ⊢
      by_cases hl : σ k = true
      · rw [if_pos hl] at h ⊢
        rw [hs]
        exact ⟨h, rfl⟩
      · rw [if_neg hl] at h ⊢
        obtain ⟨h1, h2⟩ := neg_q h
        rw [hs]
        refine ⟨h1, ?_⟩
        have h3 : toQ (kdF.neg (kdF.root (kdF.dot (tailH m k (A k k)) (tailH m k (A k k))))) = -toQ (rootR (dotF (tailH m k (A k k)) (tailH m k (A k k)))) := h2
        rw [h3]
        grind
    have hr := root_q (a := dotF (tailH m k (A k k)) (tailH m k (A k k))) (by rw [← hs]; exact hps.1)
    obtain ⟨h1, h2⟩ := dot_tail hr.1
    refine ⟨fun c hc hm => (h1 c hc hm).1, ?_⟩
    rw [hps.2, hs, hr.2.1, h2]
  -- rows that are still to come
  have rowi : ∀ i, i < n → ∀ c, c < m → fineR (A i i c) = true := fun i hi c hc => by
    by_cases h : c < i
    · obtain ⟨d, hd⟩ := Nat.exists_eq_add_of_le (show i ≤ n by omega)
      have := an i c hi (by omega)
      rw [hd, stay i c i (.inr ⟨h, h⟩) d] at this
      exact this
    · exact (hroot i hi).1 c (by omega) hc
  have down : ∀ k i, k < i → (∀ c, c < m → fineR (A (k + 1) i c) = true) → (∀ c, c < m → fineR (A k i c) = true) ∧ (k < m → fineR (tH kdF m k (σ k) (A k) i) = true ∧ ∀ c, k ≤ c → c < m → fineR (vH kdF m k (σ k) (A k) c) = true ∧ toQ (A (k + 1) i c) = toQ (A k i c) - toQ (vH kdF m k (σ k) (A k) c) * toQ (tH kdF m k (σ k) (A k) i)) := fun k i hk h => by
    have e : ∀ c, k ≤ c → A (k + 1) i c = subR (A k i c) (mulR (vH kdF m k (σ k) (A k) c) (tH kdF m k (σ k) (A k) i)) := fun c hc => by
      rw [step]; unfold foldStep; rw [if_neg (by omega), if_pos ⟨hk, hc⟩]; rfl
    have q : ∀ c, k ≤ c → c < m → fineR (A k i c) = true ∧ fineR (vH kdF m k (σ k) (A k) c) = true ∧ fineR (tH kdF m k (σ k) (A k) i) = true ∧ toQ (A (k + 1) i c) = toQ (A k i c) - toQ (vH kdF m k (σ k) (A k) c) * toQ (tH kdF m k (σ k) (A k) i) := fun c hc hm => by
      have h1 := h c hm
      rw [e c hc] at h1 ⊢
      obtain ⟨g1, g2, g3⟩ := sub_q h1
      obtain ⟨g4, g5, g6⟩ := mul_q g2
      exact ⟨g1, g4, g5, by rw [g3, g6]⟩
    refine ⟨fun c hc => ?_, fun hm => ⟨(q k (Nat.le_refl _) hm).2.2.1, fun c h1 h2 => ⟨(q c h1 h2).2.1, (q c h1 h2).2.2.2⟩⟩⟩
    by_cases h2 : k ≤ c
    · exact (q c h2 hc).1
    · have := h c hc
      rw [step] at this
      unfold foldStep at this
      rwa [if_neg (by omega), if_neg (by omega)] at this
  have rows : ∀ d k i, k + d = i → i < n → ∀ c, c < m → fineR (A k i c) = true := by
    intro d
    induction d with
    | zero =>
      intro k i h hi
      obtain rfl : k = i := by omega
      exact rowi k hi
    | succ d ih => intro k i h hi; exact (down k i (by omega) (ih (k + 1) i (by omega) hi)).1
  -- one step's rational numbers
  have vk : ∀ k i, k < i → i < n → toQ (vH kdF m k (σ k) (A k) k) = toQ (A k k k) - toQ (pH kdF m k (σ k) (A k)) ∧ (∀ c, k < c → vH kdF m k (σ k) (A k) c = A k k c) ∧
      toQ (tH kdF m k (σ k) (A k) i) * dT m k (fun c => toQ (vH kdF m k (σ k) (A k) c)) (fun c => toQ (vH kdF m k (σ k) (A k) c)) = dT m k (fun c => toQ (A k i c)) (fun c => toQ (vH kdF m k (σ k) (A k) c)) + dT m k (fun c => toQ (A k i c)) (fun c => toQ (vH kdF m k (σ k) (A k) c)) ∧
      dT m k (fun c => toQ (vH kdF m k (σ k) (A k) c)) (fun c => toQ (vH kdF m k (σ k) (A k) c)) ≠ 0 := fun k i hk hi => by
    obtain ⟨_, hd⟩ := down k i hk (rows (i - (k + 1)) (k + 1) i (by omega) hi)
    obtain ⟨ht, hv⟩ := hd (by omega)
    have h1 := (hv k (Nat.le_refl _) (by omega)).1
    refine ⟨?_, fun c hc => by unfold vH; rw [if_neg (by omega)], ?_⟩
    · unfold vH at h1 ⊢
      rw [if_pos rfl] at h1 ⊢
      exact (sub_q h1).2.2
    · obtain ⟨g1, g2, g3, g4⟩ := div_q (a := addR (dotF (tailH m k (A k i)) (tailH m k (vH kdF m k (σ k) (A k)))) (dotF (tailH m k (A k i)) (tailH m k (vH kdF m k (σ k) (A k))))) (b := dotF (tailH m k (vH kdF m k (σ k) (A k))) (tailH m k (vH kdF m k (σ k) (A k)))) ht
      have g5 := div_mul_q (a := addR (dotF (tailH m k (A k i)) (tailH m k (vH kdF m k (σ k) (A k)))) (dotF (tailH m k (A k i)) (tailH m k (vH kdF m k (σ k) (A k))))) (b := dotF (tailH m k (vH kdF m k (σ k) (A k))) (tailH m k (vH kdF m k (σ k) (A k)))) ht
      obtain ⟨g6, _, g7⟩ := add_q g1
      rw [(dot_tail g2).2] at g3 g5
      rw [g7, (dot_tail g6).2] at g5
      exact ⟨g5, g3⟩
  -- both rows behind one step
  have keep : ∀ k i j, k < n → i < n → j < n → i ≤ j → dT m k (fun c => toQ (A (k + 1) i c)) (fun c => toQ (A (k + 1) j c)) = dT m k (fun c => toQ (A k i c)) (fun c => toQ (A k j c)) := fun k i j hk hi hj hij => by
    have new : ∀ j, k < j → j < n → ∀ c, k ≤ c → c < m → toQ (A (k + 1) j c) = toQ (A k j c) - toQ (vH kdF m k (σ k) (A k) c) * toQ (tH kdF m k (σ k) (A k) j) := fun j h hj c hc hm => by
      obtain ⟨_, hd⟩ := down k j h (rows (j - (k + 1)) (k + 1) j (by omega) hj)
      exact ((hd (by omega)).2 c hc hm).2
    by_cases h1 : i < k
    · have e : A (k + 1) i = A k i := by funext c; exact stay i c k (.inl h1) 1
      rw [e, dT_zero (fun c h2 _ => by rw [zero i c k h1 (by omega)]; exact z_q), dT_zero (fun c h2 _ => by rw [zero i c k h1 (by omega)]; exact z_q)]
    · by_cases h2 : i = k
      · subst h2
        have hz : ∀ c, i < c → c < m → toQ (A (i + 1) i c) = 0 := fun c h _ => by rw [zero i c (i + 1) (by omega) h]; exact z_q
        rw [dT_one (by omega) hz, pk]
        by_cases h3 : j = i
        · subst h3
          rw [pk]
          exact (hroot j hj).2
        · have hji : i < j := by omega
          obtain ⟨v1, v2, v3, _⟩ := vk i j hji hj
          rw [new j hji hj i (Nat.le_refl _) (by omega)]
          have hr := (hroot i hk).2
          obtain ⟨p, hpp⟩ : ∃ p, p = toQ (pH kdF m i (σ i) (A i)) := ⟨_, rfl⟩
          obtain ⟨t, htt⟩ : ∃ t, t = toQ (tH kdF m i (σ i) (A i) j) := ⟨_, rfl⟩
          rw [← hpp] at hr v1 ⊢
          rw [← htt] at v3 ⊢
          -- v is x, less p at i
          have ev : ∀ g : Nat → Rat, dT m i (fun c => toQ (vH kdF m i (σ i) (A i) c)) g = dT m i (fun c => toQ (A i i c)) g - p * g i := fun g => by
            rw [dT_congr (f' := fun c => toQ (A i i c) - (if c = i then (1 : Rat) else 0) * p) (g' := g) (fun c h4 h5 => by
              by_cases hc : c = i
              · subst hc; rw [v1, if_pos rfl]; grind
              · rw [v2 c (by omega), if_neg hc]; grind) (fun _ _ _ => rfl)]
            rw [dT_subl, dT_one (f := fun c => if c = i then (1 : Rat) else 0) (by omega) (fun c h4 _ => if_neg (by omega)), if_pos rfl]
            grind
          have e1 := ev (fun c => toQ (A i j c))
          have e2 := ev (fun c => toQ (vH kdF m i (σ i) (A i) c))
          have e3 := ev (fun c => toQ (A i i c))
          rw [dT_comm m i (fun c => toQ (A i i c)) (fun c => toQ (vH kdF m i (σ i) (A i) c))] at e2
          rw [dT_comm m i (fun c => toQ (A i j c)) (fun c => toQ (vH kdF m i (σ i) (A i) c))] at v3
          rw [v1] at e2 ⊢
          rw [e3] at e2
          rw [e2] at v3
          rw [← hr] at v3
          rw [e1] at v3
          grind
      · obtain ⟨_, _, v3, v4⟩ := vk k i (by omega) hi
        obtain ⟨_, _, v5, _⟩ := vk k j (by omega) hj
        rw [dT_congr (fun c h3 h4 => new i (by omega) hi c h3 h4) (fun c h3 h4 => new j (by omega) hj c h3 h4)]
        exact dT_fold v4 v3 v5
  have gram : ∀ k, k ≤ n → ∀ i j, i < n → j < n → i ≤ j → sumH m (fun c => toQ (A k i c) * toQ (A k j c)) = sumH m fun c => toQ (a i c) * toQ (a j c) := by
    intro k
    induction k with
    | zero => intro _ i j _ _ _; rw [hA]; rfl
    | succ k ih =>
      intro hk i j hi hj hij
      rw [← ih (by omega) i j hi hj hij]
      have hm : m = k + (m - k) := by omega
      have old : ∀ i c, c < k → A (k + 1) i c = A k i c := fun i c hc => by
        rw [step]; unfold foldStep
        by_cases h : i = k
        · rw [if_pos h, if_neg (by omega), if_neg (by omega)]
        · rw [if_neg h, if_neg (by omega)]
      have hs : ∀ f : Nat → Rat, sumH m f = sumH k f + sumH (m - k) fun j => f (k + j) := fun f => by
        have := sumH_split f k (m - k)
        rw [← hm] at this
        exact this
      rw [hs, hs, sumH_congr k (g := fun c => toQ (A k i c) * toQ (A k j c)) fun c hc => by rw [old i c hc, old j c hc]]
      congr 1
      exact keep k i j (by omega) hi hj hij
  -- the end
  have fin : ∀ i j, i < n → j < n → i ≤ j → sumH n (fun c => toQ (foldH kdF n m σ τ a i c) * toQ (foldH kdF n m σ τ a j c)) = sumH m fun c => toQ (a i c) * toQ (a j c) := fun i j hi hj hij => by
    rw [← gram n (Nat.le_refl _) i j hi hj hij]
    obtain ⟨d, hd⟩ := Nat.exists_eq_add_of_le hnm
    rw [hd, sumH_split, sumH_zero d (fun c hc => by rw [zero i (n + c) n hi (by omega), z_q, Rat.zero_mul]), Rat.add_zero]
    refine sumH_congr n fun c hc => ?_
    by_cases h : i < c
    · rw [zero i c n hi h, z_q, Rat.zero_mul]
      unfold foldH
      rw [if_pos h]
      show toQ (wholeF 0) * _ = 0
      rw [z_q, Rat.zero_mul]
    · have one : ∀ i, i < n → c ≤ i → toQ (foldH kdF n m σ τ a i c) = (if τ c = true then -1 else 1) * toQ (A n i c) := fun i hi h => by
        have hf := hT i c hi h
        unfold foldH signsH at hf ⊢
        rw [← hd, ← hA] at *
        rw [if_neg (by omega)] at hf ⊢
        by_cases hl : τ c = true
        · rw [if_pos ⟨h, hl⟩] at hf ⊢
          rw [if_pos hl]
          have := (neg_q hf).2
          show toQ (negR (A n i c)) = _
          rw [this]
          grind
        · rw [if_neg (fun hh => hl hh.2)] at hf ⊢
          rw [if_neg hl]
          grind
      rw [← hd] at *
      rw [one i hi (by omega), one j hj (by omega)]
      by_cases hl : τ c = true
      · rw [if_pos hl]; grind
      · rw [if_neg hl]; grind
  intro i j hi hj
  by_cases h : i ≤ j
  · exact fin i j hi hj h
  · rw [sumH_congr n (g := fun c => toQ (foldH kdF n m σ τ a j c) * toQ (foldH kdF n m σ τ a i c)) fun c _ => Rat.mul_comm _ _, fin j i hj hi (by omega)]
    exact sumH_congr m fun c _ => Rat.mul_comm _ _
end Go.Proofs.Ythnadgbloamlaaa

/- Joseph's update in fractions: P less u times u by the spread; two of them tell the same whichever comes first. Mathematics alone. -/
namespace Go.Proofs.Ythnadgbloamlaaa
open Go.RowKit
set_option linter.unusedSimpArgs false
set_option linter.unusedVariables false

theorem dot_lin {n : Nat} {x y : Nat → Fr} (h : fineR (dotF (linJ n x) (linJ n y)) = true) : (∀ c, c < n → fineR (x c) = true ∧ fineR (y c) = true) ∧ toQ (dotF (linJ n x) (linJ n y)) = sumH n fun c => toQ (x c) * toQ (y c) := by
  have e : ∀ f : Nat → Fr, linJ n f = tailH n 0 f := fun f => by simp [tailH, linJ]
  rw [e, e] at h ⊢
  obtain ⟨h1, h2⟩ := dot_tail h
  refine ⟨fun c hc => h1 c (Nat.zero_le _) hc, h2.trans ?_⟩
  unfold dT
  rw [Nat.sub_zero]
  exact sumH_congr _ fun j _ => by rw [Nat.zero_add]
theorem mulK_q {M : Nat} {f g : Nat → Nat → Fr} {i k : Nat} (h : fineR (mulK kdF M f g i k) = true) : (∀ c, c < M → fineR (f i c) = true ∧ fineR (g c k) = true) ∧ toQ (mulK kdF M f g i k) = sumH M fun c => toQ (f i c) * toQ (g c k) :=
  dot_lin (x := f i) (y := fun c => g c k) h
theorem outer_q {c r : Nat → Fr} {i k : Nat} (h : fineR (outerJ kdF c r i k) = true) : fineR (c i) = true ∧ fineR (r k) = true ∧ toQ (outerJ kdF c r i k) = toQ (c i) * toQ (r k) := by
  obtain ⟨h1, h2⟩ := mulK_q h
  refine ⟨(h1 0 (by decide)).1, (h1 0 (by decide)).2, h2.trans ?_⟩
  show (0 : Rat) + toQ (c i) * toQ (r k) = _
  rw [Rat.zero_add]
theorem sumH_mulr (f : Nat → Rat) (s : Rat) : ∀ n, sumH n (fun j => f j * s) = sumH n f * s
  | 0 => by show (0 : Rat) = 0 * s; rw [Rat.zero_mul]
  | n + 1 => by show sumH n (fun j => f j * s) + f n * s = (sumH n f + f n) * s; rw [sumH_mulr f s n, Rat.add_mul]
theorem sumH_add (f g : Nat → Rat) : ∀ n, sumH n (fun j => f j + g j) = sumH n f + sumH n g
  | 0 => by show (0 : Rat) = 0 + 0; rw [Rat.zero_add]
  | n + 1 => by
    show sumH n (fun j => f j + g j) + (f n + g n) = (sumH n f + f n) + (sumH n g + g n)
    rw [sumH_add f g n]
    grind
theorem sumH_swap (f : Nat → Nat → Rat) (m : Nat) : ∀ n, sumH n (fun j => sumH m (fun l => f j l)) = sumH m (fun l => sumH n (fun j => f j l))
  | 0 => (sumH_zero m (fun _ _ => rfl)).symm
  | n + 1 => by
    show sumH n (fun j => sumH m (fun l => f j l)) + sumH m (fun l => f n l) = sumH m (fun l => sumH n (fun j => f j l) + f n l)
    rw [sumH_swap f m n, sumH_add]
theorem sumH_delta (f : Nat → Rat) (i : Nat) : ∀ n, sumH n (fun l => (if i = l then (1 : Rat) else 0) * f l) = if i < n then f i else 0
  | 0 => by rw [if_neg (by omega)]; rfl
  | n + 1 => by
    show sumH n (fun l => (if i = l then (1 : Rat) else 0) * f l) + (if i = n then (1 : Rat) else 0) * f n = _
    rw [sumH_delta f i n]
    by_cases h : i = n
    · subst h
      rw [if_neg (by omega), if_pos rfl, if_pos (by omega), Rat.zero_add, Rat.one_mul]
    · rw [if_neg h, Rat.zero_mul, Rat.add_zero]
      by_cases h2 : i < n
      · rw [if_pos h2, if_pos (by omega)]
      · rw [if_neg h2, if_neg (by omega)]
/-- The sum of an update. -/
theorem around_sum {n : Nat} {P : Nat → Nat → Rat} {H U : Nat → Rat} {A R : Rat} {i k : Nat} (hi : i < n) (hk : k < n) (hP : ∀ a b, a < n → b < n → P a b = P b a) (hU : ∀ c, c < n → U c = sumH n fun j => P c j * H j)
    (hA : A = (sumH n fun j => H j * U j) + R) (h0 : A ≠ 0) (Ki Kk : Rat) (hKi : Ki = U i / A) (hKk : Kk = U k / A) :
    (sumH n fun j => (sumH n fun l => ((if i = l then (1 : Rat) else 0) - Ki * H l) * P l j) * ((if k = j then (1 : Rat) else 0) - Kk * H j)) + Ki * R * Kk = P i k - U i * U k / A := by
  have inner : ∀ j, j < n → (sumH n fun l => ((if i = l then (1 : Rat) else 0) - Ki * H l) * P l j) = P i j - U j * Ki := fun j hj => by
    have e := sumH_lin (fun l => (if i = l then (1 : Rat) else 0) * P l j) (fun l => P j l * H l) Ki n
    rw [sumH_delta (fun l => P l j) i n, if_pos hi, ← hU j hj] at e
    rw [← e]
    exact sumH_congr _ fun l hl => by rw [hP j l hj hl]; grind
  have outer : (sumH n fun j => (sumH n fun l => ((if i = l then (1 : Rat) else 0) - Ki * H l) * P l j) * ((if k = j then (1 : Rat) else 0) - Kk * H j)) = (P i k - U k * Ki) - (U i - (A - R) * Ki) * Kk := by
    have e1 : (sumH n fun j => (P i j - U j * Ki) * H j) = U i - (A - R) * Ki := by
      have e := sumH_lin (fun j => P i j * H j) (fun j => H j * U j) Ki n
      rw [← hU i hi] at e
      have e2 : (sumH n fun j => H j * U j) = A - R := by rw [hA]; grind
      rw [e2] at e
      rw [← e]
      exact sumH_congr _ fun j _ => by grind
    have e := sumH_lin (fun j => (if k = j then (1 : Rat) else 0) * (P i j - U j * Ki)) (fun j => (P i j - U j * Ki) * H j) Kk n
    rw [sumH_delta (fun j => P i j - U j * Ki) k n, if_pos hk, e1] at e
    rw [← e]
    exact sumH_congr _ fun j hj => by rw [inner j hj]; grind
  rw [outer, hKi, hKk]
  grind
theorem around_q {n : Nat} {m p : Nat → Nat → Fr} {i k : Nat} (h : fineR (aroundJ kdF n m p i k) = true) :
    (∀ c, c < n → fineR (m i c) = true) ∧ (∀ c, c < n → fineR (m k c) = true) ∧ (∀ a b, a < n → b < n → fineR (p a b) = true) ∧
    toQ (aroundJ kdF n m p i k) = sumH n fun j => (sumH n fun l => toQ (m i l) * toQ (p l j)) * toQ (m k j) := by
  obtain ⟨h1, h2⟩ := mulK_q h
  have hm : ∀ c, c < n → fineR (m i c) = true := fun c hc => ((mulK_q (h1 c hc).1).1 c hc).1
  refine ⟨hm, fun c hc => (h1 c hc).2, fun a b ha hb => ((mulK_q (h1 b hb).1).1 a ha).2, h2.trans ?_⟩
  exact sumH_congr _ fun j hj => by rw [(mulK_q (h1 j hj).1).2]
/-- What an update tells, where it is fine. -/
structure UpQ (n : Nat) (p : Nat → Nat → Fr) (h : Nat → Fr) (r : Fr) (i k : Nat) (z : Fr) : Prop where
  fp : ∀ a b, a < n → b < n → fineR (p a b) = true
  fh : ∀ c, c < n → fineR (h c) = true
  ne : toQ (spreadJ kdF n p h r) ≠ 0
  fu : ∀ c, c < n → fineR (appJ kdF n p h c) = true ∧ toQ (appJ kdF n p h c) = sumH n fun j => toQ (p c j) * toQ (h j)
  ea : toQ (spreadJ kdF n p h r) = (sumH n fun j => toQ (h j) * toQ (appJ kdF n p h j)) + toQ r
  ez : toQ z = toQ (p i k) - toQ (appJ kdF n p h i) * toQ (appJ kdF n p h k) / toQ (spreadJ kdF n p h r)
theorem up_q0 {n : Nat} {one p : Nat → Nat → Fr} {h : Nat → Fr} {r : Fr} {i k : Nat} (hi : i < n) (hk : k < n) (hone : ∀ i j, toQ (one i j) = if i = j then 1 else 0) (hp : ∀ a b, a < n → b < n → toQ (p a b) = toQ (p b a))
    (hf : fineR (addR (aroundJ kdF n (restJ kdF one (gainJ kdF n p h r) h) p i k) (outerJ kdF (fun i => mulR (gainJ kdF n p h r i) r) (gainJ kdF n p h r) i k)) = true) :
    UpQ n p h r i k (addR (aroundJ kdF n (restJ kdF one (gainJ kdF n p h r) h) p i k) (outerJ kdF (fun i => mulR (gainJ kdF n p h r i) r) (gainJ kdF n p h r) i k)) := by
  obtain ⟨f1, f2, e0⟩ := add_q hf
  obtain ⟨m1, m2, fp, e1⟩ := around_q f1
  obtain ⟨kr, fk, e2⟩ := outer_q f2
  obtain ⟨fi, fr, e3⟩ := mul_q kr
  obtain ⟨fui, fa, ne, ei⟩ := div_q (show fineR (divR (appJ kdF n p h i) (spreadJ kdF n p h r)) = true from fi)
  obtain ⟨fuk, _, _, ek⟩ := div_q (show fineR (divR (appJ kdF n p h k) (spreadJ kdF n p h r)) = true from fk)
  obtain ⟨fd, _, ea⟩ := add_q (show fineR (addR (dotF (linJ n h) (linJ n (appJ kdF n p h))) r) = true from fa)
  obtain ⟨fc, ed⟩ := dot_lin fd
  have hu : ∀ c, c < n → fineR (appJ kdF n p h c) = true ∧ toQ (appJ kdF n p h c) = sumH n fun j => toQ (p c j) * toQ (h j) := fun c hc => ⟨(fc c hc).2, (dot_lin (x := p c) (y := h) (fc c hc).2).2⟩
  have ha : toQ (spreadJ kdF n p h r) = (sumH n fun j => toQ (h j) * toQ (appJ kdF n p h j)) + toQ r := by rw [← ed]; exact ea
  have rq : ∀ a c, c < n → fineR (restJ kdF one (gainJ kdF n p h r) h a c) = true → toQ (restJ kdF one (gainJ kdF n p h r) h a c) = (if a = c then 1 else 0) - toQ (gainJ kdF n p h r a) * toQ (h c) := fun a c hc hr => by
    obtain ⟨_, o1, o2⟩ := sub_q (show fineR (subR (one a c) (outerJ kdF (gainJ kdF n p h r) h a c)) = true from hr)
    rw [hone, (outer_q o1).2.2] at o2
    exact o2
  refine ⟨fp, fun c hc => (fc c hc).1, ne, hu, ha, ?_⟩
  have S := around_sum (P := fun a b => toQ (p a b)) (H := fun c => toQ (h c)) (U := fun c => toQ (appJ kdF n p h c)) (A := toQ (spreadJ kdF n p h r)) (R := toQ r) hi hk hp (fun c hc => (hu c hc).2) ha ne (toQ (gainJ kdF n p h r i)) (toQ (gainJ kdF n p h r k)) ei ek
  rw [e0, e1, e2, e3, ← S]
  congr 1
  exact sumH_congr _ fun j hj => by
    rw [rq k j hj (m2 j hj)]
    congr 1
    exact sumH_congr _ fun l hl => by rw [rq i l hl (m1 l hl)]
theorem up_q {n : Nat} {one p : Nat → Nat → Fr} {h : Nat → Fr} {r : Fr} {i k : Nat} (hi : i < n) (hk : k < n) (hone : ∀ i j, toQ (one i j) = if i = j then 1 else 0) (hp : ∀ a b, a < n → b < n → toQ (p a b) = toQ (p b a))
    (hf : fineR (upPJ kdF one n p h r i k) = true) : UpQ n p h r i k (upPJ kdF one n p h r i k) := by
  have hm : max i k < n := by omega
  have hM : min i k < n := by omega
  have U := up_q0 hm hM hone hp hf
  refine ⟨U.fp, U.fh, U.ne, U.fu, U.ea, U.ez.trans ?_⟩
  by_cases hik : k ≤ i
  · rw [Nat.max_eq_left hik, Nat.min_eq_right hik]
  · rw [Nat.max_eq_right (by omega), Nat.min_eq_left (by omega), hp k i hk hi, Rat.mul_comm (toQ (appJ kdF n p h k))]
theorem up_sym {n : Nat} {one p : Nat → Nat → Fr} {h : Nat → Fr} {r : Fr} (i k : Nat) : upPJ kdF one n p h r i k = upPJ kdF one n p h r k i := by
  unfold upPJ mirrJ mirM
  rw [Nat.max_comm, Nat.min_comm]
theorem two_alg {P Ui Uk Vi Vk α β γ : Rat} (ha : α ≠ 0) (hb : β ≠ 0) (h1 : β - γ * (γ / α) ≠ 0) (h2 : α - γ * (γ / β) ≠ 0) :
    P - Ui * Uk / α - (Vi - Ui * (γ / α)) * (Vk - Uk * (γ / α)) / (β - γ * (γ / α)) = P - Vi * Vk / β - (Ui - Vi * (γ / β)) * (Uk - Vk * (γ / β)) / (α - γ * (γ / β)) := by
  have e1 : β - γ * (γ / α) = (α * β - γ * γ) / α := by grind
  have e2 : α - γ * (γ / β) = (α * β - γ * γ) / β := by grind
  have hd : α * β - γ * γ ≠ 0 := fun e => h1 (by rw [e1, e]; grind)
  rw [e1, e2]
  grind
/-- What P is behind two updates, as rational numbers. -/
theorem two_q0 {n : Nat} {one p : Nat → Nat → Fr} {g h : Nat → Fr} {r : Fr} {i k : Nat} (hi : i < n) (hk : k < n) (hone : ∀ i j, toQ (one i j) = if i = j then 1 else 0) (hp : ∀ a b, a < n → b < n → toQ (p a b) = toQ (p b a))
    (hf : fineR (upPJ kdF one n (upPJ kdF one n p g r) h r i k) = true) {U V : Nat → Rat} (hU : ∀ c, U c = sumH n fun j => toQ (p c j) * toQ (g j)) (hV : ∀ c, V c = sumH n fun j => toQ (p c j) * toQ (h j)) {α β γ : Rat} (hα : α = (sumH n fun j => toQ (g j) * U j) + toQ r)
    (hβ : β = (sumH n fun j => toQ (h j) * V j) + toQ r) (hγ : γ = sumH n fun j => U j * toQ (h j)) :
    α ≠ 0 ∧ β - γ * (γ / α) ≠ 0 ∧ toQ (upPJ kdF one n (upPJ kdF one n p g r) h r i k) = toQ (p i k) - U i * U k / α - (V i - U i * (γ / α)) * (V k - U k * (γ / α)) / (β - γ * (γ / α)) := by
  have B := up_q hi hk hone (fun a b _ _ => by rw [up_sym]) hf
  have A : ∀ a b, a < n → b < n → UpQ n p g r a b (upPJ kdF one n p g r a b) := fun a b ha hb => up_q ha hb hone hp (B.fp a b ha hb)
  have A0 := A i k hi hk
  have eU : ∀ c, c < n → toQ (appJ kdF n p g c) = U c := fun c hc => (A0.fu c hc).2.trans (hU c).symm
  have eα : toQ (spreadJ kdF n p g r) = α := by rw [A0.ea, hα]; congr 1; exact sumH_congr _ fun j hj => by rw [eU j hj]
  have eP : ∀ a b, a < n → b < n → toQ (upPJ kdF one n p g r a b) = toQ (p a b) - U a * U b / α := fun a b ha hb => by rw [(A a b ha hb).ez, eU a ha, eU b hb, eα]
  have hα0 : α ≠ 0 := by rw [← eα]; exact A0.ne
  have eV : ∀ c, c < n → toQ (appJ kdF n (upPJ kdF one n p g r) h c) = V c - U c * (γ / α) := fun c hc => by
    rw [(B.fu c hc).2]
    have e := sumH_lin (fun j => toQ (p c j) * toQ (h j)) (fun j => U j * toQ (h j)) (U c / α) n
    rw [← hV c, ← hγ] at e
    have e2 : V c - U c * (γ / α) = V c - γ * (U c / α) := by grind
    rw [e2, ← e]
    exact sumH_congr _ fun j hj => by rw [eP c j hc hj]; grind
  have eβ : toQ (spreadJ kdF n (upPJ kdF one n p g r) h r) = β - γ * (γ / α) := by
    rw [B.ea]
    have e := sumH_lin (fun j => toQ (h j) * V j) (fun j => U j * toQ (h j)) (γ / α) n
    rw [← hγ] at e
    have e2 : β - γ * (γ / α) = (sumH n fun j => toQ (h j) * V j) - γ * (γ / α) + toQ r := by rw [hβ]; grind
    rw [e2, ← e]
    congr 1
    exact sumH_congr _ fun j hj => by rw [eV j hj]; grind
  have hb := B.ne
  rw [eβ] at hb
  exact ⟨hα0, hb, by rw [B.ez, eP i k hi hk, eV i hi, eV k hk, eβ]⟩
/-- Two updates: whichever comes first. -/
theorem two_q {n : Nat} {one p : Nat → Nat → Fr} {g h : Nat → Fr} {r : Fr} {i k : Nat} (hi : i < n) (hk : k < n) (hone : ∀ i j, toQ (one i j) = if i = j then 1 else 0) (hp : ∀ a b, a < n → b < n → toQ (p a b) = toQ (p b a))
    (hf : fineR (upPJ kdF one n (upPJ kdF one n p g r) h r i k) = true) (hf2 : fineR (upPJ kdF one n (upPJ kdF one n p h r) g r i k) = true) :
    upPJ kdF one n (upPJ kdF one n p g r) h r i k = upPJ kdF one n (upPJ kdF one n p h r) g r i k := by
  have hγ : (sumH n fun j => (sumH n fun l => toQ (p j l) * toQ (h l)) * toQ (g j)) = sumH n fun j => (sumH n fun l => toQ (p j l) * toQ (g l)) * toQ (h j) := by
    have e : ∀ (x y : Nat → Rat), (sumH n fun j => (sumH n fun l => toQ (p j l) * x l) * y j) = sumH n fun j => sumH n fun l => toQ (p j l) * x l * y j := fun x y => sumH_congr _ fun j _ => by rw [← sumH_mulr]
    rw [e, e, sumH_swap]
    exact sumH_congr _ fun l hl => sumH_congr _ fun j hj => by rw [hp j l hj hl]; grind
  obtain ⟨a1, a2, a3⟩ := two_q0 hi hk hone hp hf (fun _ => rfl) (fun _ => rfl) rfl rfl rfl
  obtain ⟨b1, b2, b3⟩ := two_q0 hi hk hone hp hf2 (fun _ => rfl) (fun _ => rfl) rfl rfl rfl
  rw [hγ] at b2 b3
  exact fr_eq hf hf2 (by rw [a3, b3]; exact two_alg a1 b1 a2 b2)
end Go.Proofs.Ythnadgbloamlaaa

/- Joseph's update in fractions against the words of the standard form; numbers that are told are fine, or Bad. Mathematics alone. -/
namespace Go.Proofs.Ythnadgbloamlaaa
open Go.RowKit
set_option linter.unusedSimpArgs false
set_option linter.unusedVariables false

theorem ofQ_bad9 (q : Rat) : fineR (ofQ q) = !(ofQ q).bad := by
  cases h : okR q
  · rw [ofQ_no h]; rfl
  · rw [ofQ_fine, h, ofQ_ok h]; rfl
theorem add_bad9 (a b : Fr) : fineR (addR a b) = !(addR a b).bad := by
  unfold addR
  split
  · exact ofQ_bad9 _
  · rfl
theorem sub_bad9 (a b : Fr) : fineR (subR a b) = !(subR a b).bad := by
  unfold subR
  split
  · exact ofQ_bad9 _
  · rfl
theorem one9 (i j : Nat) : toQ (wholeF (unitI i j)) = if i = j then 1 else 0 := by
  unfold unitI
  by_cases e : i = j
  · rw [if_pos e, if_pos e, whole_it ⟨by decide, by decide⟩]
    exact toQ_whole 1
  · rw [if_neg e, if_neg e, whole_it ⟨by decide, by decide⟩]
    exact toQ_whole 0
/-- X as the standard form has it. -/
theorem std_x {X u e a : Fr} (h1 : (addR X (divR (mulR u e) a)).bad = false) (h2 : (addR X (mulR (divR u a) e)).bad = false) : addR X (divR (mulR u e) a) = addR X (mulR (divR u a) e) := by
  have f1 : fineR (addR X (divR (mulR u e) a)) = true := by rw [add_bad9, h1]; rfl
  have f2 : fineR (addR X (mulR (divR u a) e)) = true := by rw [add_bad9, h2]; rfl
  obtain ⟨_, g1, e1⟩ := add_q f1
  obtain ⟨_, g2, e2⟩ := add_q f2
  obtain ⟨k1, _, ne, e3⟩ := div_q g1
  obtain ⟨_, _, e4⟩ := mul_q k1
  obtain ⟨k2, _, e5⟩ := mul_q g2
  obtain ⟨_, _, _, e6⟩ := div_q k2
  refine fr_eq f1 f2 ?_
  rw [e1, e2, e3, e4, e5, e6]
  grind
/-- P as the standard form has it. -/
theorem std_p {n : Nat} {p : Nat → Nat → Fr} {h : Nat → Fr} {r : Fr} {i k : Nat} (hi : i < n) (hk : k < n) (hp : ∀ a b, a < n → b < n → toQ (p a b) = toQ (p b a))
    (h1 : (subR (p i k) (divR (mulR (appJ kdF n p h i) (appJ kdF n p h k)) (spreadJ kdF n p h r))).bad = false) (h2 : (upPJ kdF (fun i j => wholeF (unitI i j)) n p h r i k).bad = false) :
    subR (p i k) (divR (mulR (appJ kdF n p h i) (appJ kdF n p h k)) (spreadJ kdF n p h r)) = upPJ kdF (fun i j => wholeF (unitI i j)) n p h r i k := by
  have f1 : fineR (subR (p i k) (divR (mulR (appJ kdF n p h i) (appJ kdF n p h k)) (spreadJ kdF n p h r))) = true := by rw [sub_bad9, h1]; rfl
  have f2 : fineR (upPJ kdF (fun i j => wholeF (unitI i j)) n p h r i k) = true := by
    have e : fineR (upPJ kdF (fun i j => wholeF (unitI i j)) n p h r i k) = !(upPJ kdF (fun i j => wholeF (unitI i j)) n p h r i k).bad := add_bad9 _ _
    rw [e, h2]
    rfl
  have U := up_q hi hk (one9) hp f2
  obtain ⟨_, g1, e1⟩ := sub_q f1
  obtain ⟨k1, _, _, e2⟩ := div_q g1
  obtain ⟨_, _, e3⟩ := mul_q k1
  exact fr_eq f1 f2 (by rw [e1, e2, e3, U.ez])
/-- Two updates, whichever comes first. -/
theorem two9 {n : Nat} {p : Nat → Nat → Fr} {g h : Nat → Fr} {r : Fr} {i k : Nat} (hi : i < n) (hk : k < n) (hp : ∀ a b, a < n → b < n → toQ (p a b) = toQ (p b a))
    (h1 : (upPJ kdF (fun i j => wholeF (unitI i j)) n (upPJ kdF (fun i j => wholeF (unitI i j)) n p g r) h r i k).bad = false) (h2 : (upPJ kdF (fun i j => wholeF (unitI i j)) n (upPJ kdF (fun i j => wholeF (unitI i j)) n p h r) g r i k).bad = false) :
    upPJ kdF (fun i j => wholeF (unitI i j)) n (upPJ kdF (fun i j => wholeF (unitI i j)) n p g r) h r i k = upPJ kdF (fun i j => wholeF (unitI i j)) n (upPJ kdF (fun i j => wholeF (unitI i j)) n p h r) g r i k := by
  have F : ∀ (q : Nat → Nat → Fr) (y : Nat → Fr), fineR (upPJ kdF (fun i j => wholeF (unitI i j)) n q y r i k) = !(upPJ kdF (fun i j => wholeF (unitI i j)) n q y r i k).bad := fun q y => add_bad9 _ _
  exact two_q hi hk one9 hp (by rw [F, h1]; rfl) (by rw [F, h2]; rfl)
theorem sq_sym9 {n : Nat} (g : Nat → Nat → Fr) (a b : Nat) : squareJ kdF n g a b = squareJ kdF n g b a := by
  unfold squareJ mirM
  rw [Nat.max_comm, Nat.min_comm]
end Go.Proofs.Ythnadgbloamlaaa

/- A region that draws its order: operations that tell values, whatever the world; two blocks that are laid, and what is stored in each; where nothing waits for the two stores. -/
namespace Go.Proofs.Ythnadgbloamlaaa
open Go.RowKit
set_option linter.unusedSimpArgs false
set_option linter.unusedVariables false

/-- What must hold of the operations, by reckoning: aA, aB lay the blocks; sA, sB store. -/
def wellT (ops : Array Oper) (ds : List (Option Nat)) (aA sA aB sB : Nat) : Bool :=
  lowB2 ops && onceB ds && (ds.length == ops.size) && ((List.range ops.size).all fun j => match ops[j]? with
    | none => true
    | some o => o.guard.isNone && (ds[j]? == some o.dst) && (o.dst.isSome || j == sA || j == sB)) && edgeB ops sA aA && edgeB ops sB aB && (aA != aB) && (aA != sB) && (aB != sA) && (sA != sB) && (aA != sA) && (aB != sB) && (ds[sA]? == some none) && (ds[sB]? == some none)
/-- A claim of a block that hangs on the block alone. -/
def OnHeap (z : World → Nat → Prop) : Prop := ∀ u u' b, z u b → b < u.heap.size → u'.heap[b]? = u.heap[b]? → u.heap.size ≤ u'.heap.size → z u' b
/-- Between two of the operations. -/
structure IT (za va zb vb : World → Nat → Prop) (W : World) (a : Act) (ops : Array Oper) (ds : List (Option Nat)) (aA sA aB sB tA tB : Nat) (facts : Nat → Value → Prop) (L : Nat → Bool) (act : Act) (u : World) : Prop where
  size : act.tmps.size = a.tmps.size
  defers : act.defers = a.defers
  frame : ∀ t, (∀ j, L j = true → ds[j]? ≠ some (some t)) → act.eval (.tmp t) = a.eval (.tmp t)
  shut : ∀ (j : Nat) (o : Oper), ops[j]? = some o → L j = true → ∀ e ∈ o.after, Region.binds .any e = true → L e.on = true
  bl : Bl W u
  val : ∀ j t, j ≠ aA → j ≠ aB → L j = true → ds[j]? = some (some t) → facts j (act.eval (.tmp t))
  A : L aA = true → ∃ b, act.eval (.tmp tA) = .pointer (some ⟨b, 0, none⟩) ∧ W.heap.size ≤ b ∧ b < u.heap.size ∧ (L sA = false → za u b) ∧ (L sA = true → va u b)
  B : L aB = true → ∃ b, act.eval (.tmp tB) = .pointer (some ⟨b, 0, none⟩) ∧ W.heap.size ≤ b ∧ b < u.heap.size ∧ (L sB = false → zb u b) ∧ (L sB = true → vb u b)
  ne : L aA = true → L aB = true → act.eval (.tmp tA) ≠ act.eval (.tmp tB)
set_option maxHeartbeats 4000000 in
theorem region_t {za va zb vb : World → Nat → Prop} (oza : OnHeap za) (ova : OnHeap va) (ozb : OnHeap zb) (ovb : OnHeap vb) {F : Fence} {n : Nat} {P : Program} {ops : Array Oper} {Q : Exit → Act → World → Prop} {a : Act} {W : World} {id : Nat} (hm : P.follows .mixedOrders = true) (ds : List (Option Nat)) (aA sA aB sB tA tB : Nat) (hw : wellT ops ds aA sA aB sB = true)
    (hsz0 : ds.all (fun d => match d with | some t => Nat.blt t a.tmps.size | none => true) = true) (hA : ds[aA]? = some (some tA)) (hB : ds[aB]? = some (some tB)) (facts : Nat → Value → Prop)
    (step : ∀ (j : Nat) (o : Oper) (t : Nat) (act : Act) (u : World), j ≠ aA → j ≠ aB → ops[j]? = some o → o.dst = some t → act.tmps.size = a.tmps.size → Bl W u → (∀ t, some t ∉ ds → act.eval (.tmp t) = a.eval (.tmp t)) → (∀ e ∈ o.after, Region.binds .any e = true → e.on ≠ aA → e.on ≠ aB → ∀ t, ds[e.on]? = some (some t) → facts e.on (act.eval (.tmp t))) →
      Oper.wpIn F n P o act u (fun act' u' => ∃ v, act' = act.put (some t) v ∧ facts j v ∧ Bl u u') Q)
    (la : ∀ (o : Oper) (act : Act) (u : World), ops[aA]? = some o → Oper.wpIn F n P o act u (fun act' u' => act' = act.put (some tA) (.pointer (some ⟨u.heap.size, 0, none⟩)) ∧ za u' u.heap.size ∧ Bl u u' ∧ u.heap.size < u'.heap.size) Q)
    (lb : ∀ (o : Oper) (act : Act) (u : World), ops[aB]? = some o → Oper.wpIn F n P o act u (fun act' u' => act' = act.put (some tB) (.pointer (some ⟨u.heap.size, 0, none⟩)) ∧ zb u' u.heap.size ∧ Bl u u' ∧ u.heap.size < u'.heap.size) Q)
    (sa : ∀ (o : Oper) (act : Act) (u : World) (b : Nat), ops[sA]? = some o → act.eval (.tmp tA) = .pointer (some ⟨b, 0, none⟩) → za u b → Bl W u → W.heap.size ≤ b → (∀ t, some t ∉ ds → act.eval (.tmp t) = a.eval (.tmp t)) → (∀ e ∈ o.after, Region.binds .any e = true → e.on ≠ aA → e.on ≠ aB → ∀ t, ds[e.on]? = some (some t) → facts e.on (act.eval (.tmp t))) →
      Oper.wpIn F n P o act u (fun act' u' => act' = act ∧ va u' b ∧ Bl W u' ∧ (∀ b', b' ≠ b → u'.heap[b']? = u.heap[b']?) ∧ u.heap.size ≤ u'.heap.size) Q)
    (sb : ∀ (o : Oper) (act : Act) (u : World) (b : Nat), ops[sB]? = some o → act.eval (.tmp tB) = .pointer (some ⟨b, 0, none⟩) → zb u b → Bl W u → W.heap.size ≤ b → (∀ t, some t ∉ ds → act.eval (.tmp t) = a.eval (.tmp t)) → (∀ e ∈ o.after, Region.binds .any e = true → e.on ≠ aA → e.on ≠ aB → ∀ t, ds[e.on]? = some (some t) → facts e.on (act.eval (.tmp t))) →
      Oper.wpIn F n P o act u (fun act' u' => act' = act ∧ vb u' b ∧ Bl W u' ∧ (∀ b', b' ≠ b → u'.heap[b']? = u.heap[b']?) ∧ u.heap.size ≤ u'.heap.size) Q)
    (fin : ∀ (vs : Nat → Value) (u : World) (b1 b2 : Nat), Bl W u → vs aA = .pointer (some ⟨b1, 0, none⟩) → vs aB = .pointer (some ⟨b2, 0, none⟩) → W.heap.size ≤ b1 → W.heap.size ≤ b2 → b1 < u.heap.size → b2 < u.heap.size → b1 ≠ b2 → va u b1 → vb u b2 → (∀ j t, j ≠ aA → j ≠ aB → ds[j]? = some (some t) → facts j (vs j)) → Q .normal (putL ds vs 0 a) u) :
    (Code.region id ops true).wpIn F n P Q a W := by
  simp only [wellT, Bool.and_eq_true, bne_iff_ne, ne_eq, beq_iff_eq] at hw
  obtain ⟨⟨⟨⟨⟨⟨⟨⟨⟨⟨⟨⟨⟨hlow, honce⟩, hlen⟩, hall'⟩, eA⟩, eB⟩, nAB⟩, nAsB⟩, nBsA⟩, nss⟩, nAA⟩, nBB⟩, dsA⟩, dsB⟩ := hw
  have key : ∀ (j : Nat) (o : Oper), ops[j]? = some o → (o.guard = none ∧ ds[j]? = some o.dst) ∧ (o.dst.isSome = true ∨ j = sA ∨ j = sB) := fun j o ho => by
    have := List.all_eq_true.1 hall' j (by simpa using (Array.getElem?_eq_some_iff.1 ho).1)
    rw [ho] at this
    simp only [Bool.and_eq_true, Bool.or_eq_true, beq_iff_eq, Option.isNone_iff_eq_none] at this
    exact ⟨this.1, or_assoc.1 this.2⟩
  have hsz : ∀ t, some t ∈ ds → t < a.tmps.size := fun t ht => by have := List.all_eq_true.1 hsz0 _ ht; rw [Nat.blt_eq] at this; exact this
  have hlt : ∀ (j : Nat) d, ds[j]? = some d → j < ops.size := fun j d h => by have := (List.getElem?_eq_some_iff.1 h).1; rw [hlen] at this; exact this
  refine region_facts2 hm (lowB2_low hlow) (IT za va zb vb W a ops ds aA sA aB sB tA tB facts) ?_ ?_ ?_
  · exact ⟨rfl, rfl, fun _ _ => rfl, (by intro _ _ _ h; cases h), (Bl.refl _).drew, (by intro _ _ _ _ h; cases h), (by intro h; cases h), (by intro h; cases h), (by intro h; cases h)⟩
  · intro L act u i o hI ho hLi hall
    refine step_wp ho (key i o ho).1.1 ?_
    have hdi := (key i o ho).1.2
    have hfr : ∀ t, some t ∉ ds → act.eval (.tmp t) = a.eval (.tmp t) := fun t ht => hI.frame t (fun j _ e => ht (List.mem_of_getElem? e))
    have hin : ∀ e ∈ o.after, Region.binds .any e = true → e.on ≠ aA → e.on ≠ aB → ∀ t, ds[e.on]? = some (some t) → facts e.on (act.eval (.tmp t)) := fun e he hb h1 h2 t ht => hI.val e.on t h1 h2 (hall e he hb) ht
    have shut' : ∀ (j : Nat) (o' : Oper), ops[j]? = some o' → (L j || (j == i)) = true → ∀ e ∈ o'.after, Region.binds .any e = true → (L e.on || (e.on == i)) = true := fun j o' ho' hj e he hb => by
      rw [Bool.or_eq_true] at hj
      rcases hj with hj | hj
      · rw [hI.shut j o' ho' hj e he hb]; rfl
      · obtain rfl : j = i := by simpa using hj
        rw [ho] at ho'
        cases ho'
        rw [hall e he hb]; rfl
    have frame' : ∀ (t : Nat) v, ds[i]? = some (some t) → ∀ t', (∀ j, (L j || (j == i)) = true → ds[j]? ≠ some (some t')) → (act.put (some t) v).eval (.tmp t') = a.eval (.tmp t') := fun t v hd t' h => by
      rw [eval_put_ne (fun e => h i (by simp) (by rw [hd, e]))]
      exact hI.frame t' (fun j hj => h j (by rw [hj]; rfl))
    have frame0 : ∀ t', (∀ j, (L j || (j == i)) = true → ds[j]? ≠ some (some t')) → act.eval (.tmp t') = a.eval (.tmp t') := fun t' h => hI.frame t' (fun j hj => h j (by rw [hj]; rfl))
    have waits : ∀ j, edgeB ops i j = true → L j = true := fun j h => by
      obtain ⟨o', e, ho', he, hej, hb⟩ := edge_of h
      rw [ho] at ho'
      cases ho'
      rw [← hej]
      exact hall e he hb
    have done : ∀ x y, edgeB ops x y = true → L x = true → L y = true := fun x y h hx => by
      obtain ⟨o', e, ho', he, hej, hb⟩ := edge_of h
      rw [← hej]
      exact hI.shut x o' ho' hx e he hb
    have ohter : ∀ (t : Nat) (v : Value) (j t' : Nat), ds[i]? = some (some t) → ds[j]? = some (some t') → j ≠ i → (act.put (some t) v).eval (.tmp t') = act.eval (.tmp t') := fun t v j t' h1 h2 h3 => put_other honce h1 h2 h3 v act
    have same : ∀ (t : Nat) (v : Value), ds[i]? = some (some t) → (act.put (some t) v).eval (.tmp t) = v := fun t v h => eval_put_same (by rw [hI.size]; exact hsz t (List.mem_of_getElem? h))
    have lt' : ∀ x, x ≠ i → (L x || (x == i)) = L x := fun x hx => by rw [show (x == i) = false by simpa using hx, Bool.or_false]
    have no : ∀ x : Prop, L i = true → x := fun x h => by rw [h] at hLi; cases hLi
    by_cases iA : i = aA
    · subst iA
      have hs : L sA = false := by cases hh : L sA with | false => rfl | true => exact no _ (done _ _ eA hh)
      refine Oper.wpIn_mono ?_ (la o act u ho)
      rintro act' u' ⟨rfl, hz, hb, hsz1⟩
      refine ⟨by rw [size_put]; exact hI.size, by rw [defers_put]; exact hI.defers, frame' tA _ hA, shut', hI.bl.trans hb, fun j t' h1 h2 hL hdj => ?_, fun _ => ?_, fun h => ?_, fun _ h => ?_⟩
      · rw [ohter _ _ j t' hA hdj h1]
        rw [lt' j h1] at hL
        exact hI.val j t' h1 h2 hL hdj
      · exact ⟨u.heap.size, same _ _ hA, hI.bl.size, hsz1, fun _ => hz, fun h => by rw [lt' _ (Ne.symm nAA), hs] at h; cases h⟩
      · rw [lt' _ (Ne.symm nAB)] at h
        obtain ⟨b, h1, h2, h3, h4, h5⟩ := hI.B h
        refine ⟨b, by rw [ohter _ _ _ _ hA hB (Ne.symm nAB)]; exact h1, h2, Nat.lt_of_lt_of_le h3 hb.size, fun h6 => ?_, fun h6 => ?_⟩
        · rw [lt' _ (Ne.symm nAsB)] at h6
          exact ozb u u' b (h4 h6) h3 (Below.block hb b h3) hb.size
        · rw [lt' _ (Ne.symm nAsB)] at h6
          exact ovb u u' b (h5 h6) h3 (Below.block hb b h3) hb.size
      · rw [lt' _ (Ne.symm nAB)] at h
        obtain ⟨b, h1, h2, h3, _⟩ := hI.B h
        rw [same _ _ hA, ohter _ _ _ _ hA hB (Ne.symm nAB), h1]
        intro e
        cases e
        omega
    by_cases iB : i = aB
    · subst iB
      have hs : L sB = false := by cases hh : L sB with | false => rfl | true => exact no _ (done _ _ eB hh)
      refine Oper.wpIn_mono ?_ (lb o act u ho)
      rintro act' u' ⟨rfl, hz, hb, hsz1⟩
      refine ⟨by rw [size_put]; exact hI.size, by rw [defers_put]; exact hI.defers, frame' tB _ hB, shut', hI.bl.trans hb, fun j t' h1 h2 hL hdj => ?_, fun h => ?_, fun _ => ?_, fun h _ => ?_⟩
      · rw [ohter _ _ j t' hB hdj h2]
        rw [lt' j h2] at hL
        exact hI.val j t' h1 h2 hL hdj
      · rw [lt' _ nAB] at h
        obtain ⟨b, h1, h2, h3, h4, h5⟩ := hI.A h
        refine ⟨b, by rw [ohter _ _ _ _ hB hA nAB]; exact h1, h2, Nat.lt_of_lt_of_le h3 hb.size, fun h6 => ?_, fun h6 => ?_⟩
        · rw [lt' _ (Ne.symm nBsA)] at h6
          exact oza u u' b (h4 h6) h3 (Below.block hb b h3) hb.size
        · rw [lt' _ (Ne.symm nBsA)] at h6
          exact ova u u' b (h5 h6) h3 (Below.block hb b h3) hb.size
      · exact ⟨u.heap.size, same _ _ hB, hI.bl.size, hsz1, fun _ => hz, fun h => by rw [lt' _ (Ne.symm nBB), hs] at h; cases h⟩
      · rw [lt' _ nAB] at h
        obtain ⟨b, h1, h2, h3, _⟩ := hI.A h
        rw [same _ _ hB, ohter _ _ _ _ hB hA nAB, h1]
        intro e
        cases e
        omega
    by_cases jA : i = sA
    · subst jA
      have hLA : L aA = true := waits _ eA
      obtain ⟨b, h1, h2, h3, h4, h5⟩ := hI.A hLA
      refine Oper.wpIn_mono ?_ (sa o act u b ho h1 (h4 hLi) hI.bl h2 hfr hin)
      rintro act' u' ⟨rfl, hv, hb, hoth, hsz1⟩
      refine ⟨hI.size, hI.defers, frame0, shut', hb, fun j t' g1 g2 hL hdj => ?_, fun _ => ?_, fun h => ?_, fun g1 g2 => ?_⟩
      · by_cases e : j = i
        · subst e
          rw [dsA] at hdj
          cases hdj
        · rw [lt' j e] at hL
          exact hI.val j t' g1 g2 hL hdj
      · exact ⟨b, h1, h2, Nat.lt_of_lt_of_le h3 hsz1, fun h => by simp at h, fun _ => hv⟩
      · rw [lt' _ (Ne.symm iB)] at h
        obtain ⟨b', k1, k2, k3, k4, k5⟩ := hI.B h
        have hne : b' ≠ b := fun e => hI.ne hLA h (by rw [h1, k1, e])
        refine ⟨b', k1, k2, Nat.lt_of_lt_of_le k3 hsz1, fun h6 => ?_, fun h6 => ?_⟩
        · rw [lt' _ (Ne.symm nss)] at h6
          exact ozb u u' b' (k4 h6) k3 (hoth b' hne) hsz1
        · rw [lt' _ (Ne.symm nss)] at h6
          exact ovb u u' b' (k5 h6) k3 (hoth b' hne) hsz1
      · rw [lt' _ (Ne.symm iB)] at g2
        exact hI.ne hLA g2
    by_cases jB : i = sB
    · subst jB
      have hLB : L aB = true := waits _ eB
      obtain ⟨b, h1, h2, h3, h4, h5⟩ := hI.B hLB
      refine Oper.wpIn_mono ?_ (sb o act u b ho h1 (h4 hLi) hI.bl h2 hfr hin)
      rintro act' u' ⟨rfl, hv, hb, hoth, hsz1⟩
      refine ⟨hI.size, hI.defers, frame0, shut', hb, fun j t' g1 g2 hL hdj => ?_, fun h => ?_, fun _ => ?_, fun g1 g2 => ?_⟩
      · by_cases e : j = i
        · subst e
          rw [dsB] at hdj
          cases hdj
        · rw [lt' j e] at hL
          exact hI.val j t' g1 g2 hL hdj
      · rw [lt' _ (Ne.symm iA)] at h
        obtain ⟨b', k1, k2, k3, k4, k5⟩ := hI.A h
        have hne : b' ≠ b := fun e => hI.ne h hLB (by rw [h1, k1, e])
        refine ⟨b', k1, k2, Nat.lt_of_lt_of_le k3 hsz1, fun h6 => ?_, fun h6 => ?_⟩
        · rw [lt' _ nss] at h6
          exact oza u u' b' (k4 h6) k3 (hoth b' hne) hsz1
        · rw [lt' _ nss] at h6
          exact ova u u' b' (k5 h6) k3 (hoth b' hne) hsz1
      · exact ⟨b, h1, h2, Nat.lt_of_lt_of_le h3 hsz1, fun h => by simp at h, fun _ => hv⟩
      · rw [lt' _ (Ne.symm iA)] at g1
        exact hI.ne g1 hLB
    have hd : ∃ t, o.dst = some t := by
      rcases (key i o ho).2 with h | h | h
      · exact Option.isSome_iff_exists.1 h
      · exact absurd h jA
      · exact absurd h jB
    obtain ⟨t, hd⟩ := hd
    have hdt : ds[i]? = some (some t) := by rw [hdi, hd]
    refine Oper.wpIn_mono ?_ (step i o t act u iA iB ho hd hI.size hI.bl hfr hin)
    rintro act' u' ⟨v, rfl, hf, hb⟩
    refine ⟨by rw [size_put]; exact hI.size, by rw [defers_put]; exact hI.defers, frame' t v hdt, shut', hI.bl.trans hb, fun j t' h1 h2 hL hdj => ?_, fun h => ?_, fun h => ?_, fun g1 g2 => ?_⟩
    · by_cases e : j = i
      · subst e
        rw [hdt] at hdj
        cases hdj
        rw [same t v hdt]
        exact hf
      · rw [ohter t v j t' hdt hdj e]
        rw [lt' j e] at hL
        exact hI.val j t' h1 h2 hL hdj
    · rw [lt' _ (Ne.symm iA)] at h
      obtain ⟨b, h1, h2, h3, h4, h5⟩ := hI.A h
      refine ⟨b, by rw [ohter t v _ _ hdt hA (Ne.symm iA)]; exact h1, h2, Nat.lt_of_lt_of_le h3 hb.size, fun h6 => ?_, fun h6 => ?_⟩
      · rw [lt' _ (Ne.symm jA)] at h6
        exact oza u u' b (h4 h6) h3 (Below.block hb b h3) hb.size
      · rw [lt' _ (Ne.symm jA)] at h6
        exact ova u u' b (h5 h6) h3 (Below.block hb b h3) hb.size
    · rw [lt' _ (Ne.symm iB)] at h
      obtain ⟨b, h1, h2, h3, h4, h5⟩ := hI.B h
      refine ⟨b, by rw [ohter t v _ _ hdt hB (Ne.symm iB)]; exact h1, h2, Nat.lt_of_lt_of_le h3 hb.size, fun h6 => ?_, fun h6 => ?_⟩
      · rw [lt' _ (Ne.symm jB)] at h6
        exact ozb u u' b (h4 h6) h3 (Below.block hb b h3) hb.size
      · rw [lt' _ (Ne.symm jB)] at h6
        exact ovb u u' b (h5 h6) h3 (Below.block hb b h3) hb.size
    · rw [lt' _ (Ne.symm iA)] at g1
      rw [lt' _ (Ne.symm iB)] at g2
      rw [ohter t v _ _ hdt hA (Ne.symm iA), ohter t v _ _ hdt hB (Ne.symm iB)]
      exact hI.ne g1 g2
  · intro L act u hI hall
    have hL : ∀ j d, ds[j]? = some d → L j = true := fun j d h => hall j (hlt j d h)
    have e : act = putL ds (fun j => act.eval (.tmp ((ds[j]?.getD none).getD 0))) 0 a := by
      refine act_ext (by rw [putL_size]; exact hI.size) (by rw [putL_defers]; exact hI.defers) fun t ht => ?_
      by_cases hm' : some t ∈ ds
      · obtain ⟨j, hj⟩ := List.getElem?_of_mem hm'
        rw [putL_at ds _ t j 0 a honce hj (by rw [← hI.size]; exact ht), Nat.zero_add, hj]
        rfl
      · rw [putL_other ds _ t 0 a (fun d hd e => hm' (by rw [← e]; exact hd))]
        exact hI.frame t (fun j _ e => hm' (List.mem_of_getElem? e))
    obtain ⟨b1, p1, p2, p3, _, p5⟩ := hI.A (hL _ _ hA)
    obtain ⟨b2, q1, q2, q3, _, q5⟩ := hI.B (hL _ _ hB)
    rw [e]
    exact fin _ u b1 b2 hI.bl (by simpa [hA] using p1) (by simpa [hB] using q1) p2 q2 p3 q3 (fun h => hI.ne (hL _ _ hA) (hL _ _ hB) (by rw [p1, q1, h])) (p5 (hL _ _ dsA)) (q5 (hL _ _ dsB)) (fun j t h1 h2 h => by have := hI.val j t h1 h2 (hL j _ h) h; simpa [h] using this)
theorem heap3F {g l : Nat} (u : World) (h : l ≠ g) (v0 v1 v2 : Value) : (((u.setCell ⟨g, 0, none⟩ v0).setCell ⟨g, 1, none⟩ v1).setCell ⟨g, 2, none⟩ v2).heap[l]? = u.heap[l]? := by
  rw [heap1 _ h, heap1 _ h, heap1 _ h]
theorem on_FBox (x : Fr) : OnHeap (fun u b => FBox u b x) := fun u u' b h _ e hs =>
  ⟨(World.cell?_of_block (a := ⟨b, 0, none⟩) e).trans h.c0, (World.cell?_of_block (a := ⟨b, 1, none⟩) e).trans h.c1, (World.cell?_of_block (a := ⟨b, 2, none⟩) e).trans h.c2,
   (World.frozen?_of_block (a := ⟨b, 0, none⟩) e).trans h.f0, (World.frozen?_of_block (a := ⟨b, 1, none⟩) e).trans h.f1, (World.frozen?_of_block (a := ⟨b, 2, none⟩) e).trans h.f2, Nat.lt_of_lt_of_le h.lt hs⟩
end Go.Proofs.Ythnadgbloamlaaa

/- The walk of JosephTwo. Our own tool writes it. -/
namespace Go.Proofs.Ythnadgbloamlaaa
open Go.RowKit
set_option linter.unusedSimpArgs false
set_option linter.unusedVariables false

theorem Try.info_J9 : (Try.prog.info? 3).map (fun i => (i.zero, i.size, i.bytes)) = some (some (.int .i64 0), 1, 8) := by kernel_rfl
theorem rq_first9 {w : World} {p : Option Addr} {n cap m : Nat} {xs : List Int} (h : Rq 1 cI w (.slice p n cap) xs) (hl : xs.length = n) (hm : m ≤ n) (h1 : 1 ≤ m) : Rq 1 cI w (.slice p m cap) (linJ m fun i => xs.getD i 0) := by
  rcases h with ⟨p', cap', e, hx, _⟩ | ⟨b, o, cap', e, hc, hb, hx⟩
  · subst hx
    simp at hl
    omega
  · simp only [Value.slice.injEq] at e
    obtain ⟨rfl, _, rfl⟩ := e
    refine .inr ⟨b, o, cap, by rw [linJ_len], by rw [linJ_len]; omega, hb, fun j x hj k u hu => hx j x ?_ k u hu⟩
    have hjm : j < m := by have := (List.getElem?_eq_some_iff.1 hj).1; rwa [linJ_len] at this
    rw [linJ_get _ hjm] at hj
    rw [← Option.some.inj hj, List.getD_eq_getElem?_getD, List.getElem?_eq_getElem (by omega)]
    rfl
theorem idx9t {R j : Nat} (h : j < R * R) : ∃ i k, i < R ∧ k < R ∧ j = i * R + k := by
  have h0 : 0 < R := by
    rcases Nat.eq_zero_or_pos R with e | e
    · subst e; simp at h
    · exact e
  exact ⟨j / R, j % R, (Nat.div_lt_iff_lt_mul h0).2 h, Nat.mod_lt _ h0, by rw [Nat.mul_comm]; exact (Nat.div_add_mod j R).symm⟩
theorem two_key9 {n : Nat} {p : Nat → Nat → Fr} {g h : Nat → Fr} {r : Fr} {i k : Nat} (hi : i < n) (hk : k < n) (hp : ∀ a b, a < n → b < n → toQ (p a b) = toQ (p b a)) :
    (upPJ kdF (fun i j => wholeF (unitI i j)) n (upPJ kdF (fun i j => wholeF (unitI i j)) n p g r) h r i k).bad = true ∨ (upPJ kdF (fun i j => wholeF (unitI i j)) n (upPJ kdF (fun i j => wholeF (unitI i j)) n p h r) g r i k).bad = true ∨
      upPJ kdF (fun i j => wholeF (unitI i j)) n (upPJ kdF (fun i j => wholeF (unitI i j)) n p g r) h r i k = upPJ kdF (fun i j => wholeF (unitI i j)) n (upPJ kdF (fun i j => wholeF (unitI i j)) n p h r) g r i k := by
  cases h1 : (upPJ kdF (fun i j => wholeF (unitI i j)) n (upPJ kdF (fun i j => wholeF (unitI i j)) n p g r) h r i k).bad
  · cases h2 : (upPJ kdF (fun i j => wholeF (unitI i j)) n (upPJ kdF (fun i j => wholeF (unitI i j)) n p h r) g r i k).bad
    · exact .inr (.inr (two9 hi hk hp h1 h2))
    · exact .inr (.inl rfl)
  · exact .inl rfl
theorem slice9 {w : World} {p : Option Addr} {n cap m : Nat} {xs : List Int} (h : Rq 1 cI w (.slice p n cap) xs) (hl : xs.length = n) (hm : m ≤ n) (h1 : 1 ≤ m) (u : World) : (Instr.sliceAt 22 (.slice p n cap) none (some (.int .i64 m)) none).run Try.prog u = .ok (.slice p m cap) u := by
  rcases h with ⟨p', cap', e, hx, _⟩ | ⟨b, o, cap', e, hc, hb, hx⟩
  · subst hx
    simp at hl
    omega
  · simp only [Value.slice.injEq] at e
    obtain ⟨rfl, _, rfl⟩ := e
    have hu : Try.prog.underlying 22 = some (.slice (Try.prog.elem 22)) := by kernel_rfl
    obtain ⟨i0, hi0, hz0, hz1, hz2⟩ := info_parts Try.info_J9
    have he : Try.prog.elem 22 = 3 := by kernel_rfl
    rw [run_sliceAt_slice (h := hu), run_slice_h (ht := hu) (h0 := by omega) (h2 := by omega), he]
    have hcm : ¬ cap = 0 := by omega
    simp [sizeOf, typeInfo, hi0, sliced, Result.andThen, hz1, hcm, Addr.add]
set_option maxRecDepth 100000 in
set_option maxHeartbeats 16000000 in
theorem walk_JosephTwo (n r z : Int) (vx vr vf vg vh : Value) (X Ro Fm Gm H : List Int) (w : World) (hX : Rq 1 cI w vx X) (hR : Rq 1 cI w vr Ro) (hF : Rq 1 cI w vf Fm) (hG : Rq 1 cI w vg Gm) (hH : Rq 1 cI w vh H) :
    Calls Try.prog 5 #[.agg #[.int .i64 n, vx, vr, vf, vg, vh, .int .i64 r, .int .i64 z]] w fun e w' => e = .returned (.bool true) ∧ Bl w w' := by
  have fm : Try.prog.follows .mixedOrders = true := by kernel_rfl
  have egW := enters_of Try.func9 (by kernel_rfl) rfl
  have egU := enters_of Try.func10 (by kernel_rfl) rfl
  have egQ := enters_of Try.func11 (by kernel_rfl) rfl
  have egS := enters_of Try.func8 (by kernel_rfl) rfl
  have AW := hideP awake9_any
  obtain ⟨px, cx, rfl, _, _⟩ := hX.cut
  obtain ⟨pr, cr, rfl, _, _⟩ := hR.cut
  obtain ⟨pf, cf, rfl, _, _⟩ := hF.cut
  obtain ⟨pg, cg, rfl, _, _⟩ := hG.cut
  obtain ⟨ph, ch, rfl, _, _⟩ := hH.cut
  obtain ⟨lx, hlx⟩ : ∃ l, l = X.length := ⟨_, rfl⟩
  obtain ⟨lr, hlr⟩ : ∃ l, l = Ro.length := ⟨_, rfl⟩
  obtain ⟨lf, hlf⟩ : ∃ l, l = Fm.length := ⟨_, rfl⟩
  obtain ⟨lg, hlg⟩ : ∃ l, l = Gm.length := ⟨_, rfl⟩
  obtain ⟨lh, hlh⟩ : ∃ l, l = H.length := ⟨_, rfl⟩
  rw [← hlx] at hX
  rw [← hlr] at hR
  rw [← hlf] at hF
  rw [← hlg] at hG
  rw [← hlh] at hH
  rw [← hlx, ← hlr, ← hlf, ← hlg, ← hlh]
  obtain ⟨W, hW⟩ : ∃ W, W = w.alloc (.cells #[.int .i64 n, .slice px lx cx, .slice pr lr cr, .slice pf lf cf, .slice pg lg cg, .slice ph lh ch, .int .i64 r, .int .i64 z] 24) := ⟨_, rfl⟩
  have b0 : Bl w W := by rw [hW]; exact (Bl.refl _).alloc _
  have lt0 : w.heap.size < W.heap.size := by rw [hW]; simp
  have HC := hideP (show ∀ u, Bl W u → u.cell? ⟨w.heap.size, 0, none⟩ = some (.int .i64 n) ∧ u.cell? ⟨w.heap.size, 1, none⟩ = some (.slice px lx cx) ∧ u.cell? ⟨w.heap.size, 2, none⟩ = some (.slice pr lr cr) ∧ u.cell? ⟨w.heap.size, 3, none⟩ = some (.slice pf lf cf) ∧ u.cell? ⟨w.heap.size, 4, none⟩ = some (.slice pg lg cg) ∧ u.cell? ⟨w.heap.size, 5, none⟩ = some (.slice ph lh ch) ∧ u.cell? ⟨w.heap.size, 6, none⟩ = some (.int .i64 r) ∧ u.cell? ⟨w.heap.size, 7, none⟩ = some (.int .i64 z) from fun u hu => by
    refine ⟨?_, ?_, ?_, ?_, ?_, ?_, ?_, ?_⟩ <;> (rw [bl_cell hu _ _ lt0, hW]; simp [go_sem]))
  have FE := hideP (few9_any n r z px pr pf pg ph lx cx lr cr lf cf lg cg lh ch X Ro Fm Gm H W (hX.later b0) (hR.later b0) (hF.later b0) (hG.later b0) (hH.later b0) hlx.symm hlr.symm hlf.symm hlg.symm hlh.symm)
  have HW := hideP hW
  have HXR0 := hideP hX
  have HHR0 := hideP hH
  have HRR := hideP hR
  have HFR := hideP hF
  have HGR := hideP hG
  have hlx' := hideP hlx.symm
  have hlr' := hideP hlr.symm
  have hlf' := hideP hlf.symm
  have hlg' := hideP hlg.symm
  have hlh' := hideP hlh.symm
  clear hW hX hR hF hG hH hlx hlr hlf hlg hlh
  go_enter Try.func5, Try.ntmps5
  go_wp2_with fail
  rw [← HW.out]
  refine FE.out.mono ?_
  rintro e w1 ⟨b1, rfl, hb1, h1⟩
  clear FE
  cases b1 with
  | false =>
    go_wp2_with fail
    refine (AW.out _).mono ?_
    rintro e w99 ⟨rfl, h99⟩
    go_wp2
    go_ret
    exact ⟨rfl, (b0.trans h1).trans h99⟩
  | true =>
    obtain ⟨m, rfl, fw⟩ := hb1 rfl
    clear hb1
    obtain ⟨N, hN⟩ : ∃ N, N = m * m := ⟨_, rfl⟩
    obtain rfl : lx = m := by rw [← hlx'.out]; exact fw.x
    obtain ⟨m, rfl⟩ : ∃ m, m = lx := ⟨_, rfl⟩
    obtain rfl : lh = m := by rw [← hlh'.out]; exact fw.h
    obtain ⟨m, rfl⟩ : ∃ m, m = lh := ⟨_, rfl⟩
    obtain rfl : lr = N := by rw [← hlr'.out, hN]; exact fw.ro
    obtain ⟨N, rfl⟩ : ∃ N, N = lr := ⟨_, rfl⟩
    obtain rfl : lf = N := by rw [← hlf'.out, hN]; exact fw.f
    obtain ⟨N, rfl⟩ : ∃ N, N = lf := ⟨_, rfl⟩
    obtain rfl : lg = N := by rw [← hlg'.out, hN]; exact fw.g
    obtain ⟨N, rfl⟩ : ∃ N, N = lg := ⟨_, rfl⟩
    have m1 := fw.m1
    have m3 := fw.m3
    have hm4 : m ≤ 4 := by omega
    have hN9 : N ≤ 9 := by rw [hN]; exact Nat.mul_le_mul m3 m3
    have mN : m ≤ N := by rw [hN]; exact Nat.le_mul_of_pos_left m m1
    have HNN := hideP hN
    have HD := hideP (dim_le4 m1 hm4)
    have HFW := hideP fw
    have HXR := hideP (show Rq 1 cI w (.slice px m cx) (linJ m fun i => X.getD i 0) from by rw [← linJ_of (n := m) 0 X hlx'.out]; exact HXR0.out)
    have HHR := hideP (show Rq 1 cI w (.slice ph m ch) (linJ m fun i => H.getD i 0) from by rw [← linJ_of (n := m) 0 H hlh'.out]; exact HHR0.out)
    have b1w : Bl W w1 := h1
    clear hN fw HHR0
    obtain ⟨Rr, hRr⟩ : ∃ x : Fr, x = newR r 1 := ⟨_, rfl⟩
    obtain ⟨Zz, hZz⟩ : ∃ x : Fr, x = newR z 1 := ⟨_, rfl⟩
    have HRr := hideP hRr
    have HZz := hideP hZz
    have HFT := hideP (rq_first9 HFR.out hlf'.out mN m1)
    have SL9 := slice9 HFR.out hlf'.out mN m1
    obtain ⟨c0, c1, c2, c3, c4, c5, c6, c7⟩ := HC.out _ b1w
    clear hRr hZz
    go_wp2_with fail
    clear c0 c1 c2 c3 c4 c5 c6 c7
    refine (wpIn_wide (n := 8)).1 (region_t (za := (fun u b => FBox u b (zeroR))) (va := (fun u b => FBox u b (Rr))) (zb := (fun u b => FBox u b (zeroR))) (vb := (fun u b => FBox u b (Zz))) (on_FBox _) (on_FBox _) (on_FBox _) (on_FBox _) fm [some 26, some 27, some 28, some 29, some 30, some 31, some 3, some 4, none, none] 6 8 7 9 3 4 (by kernel_rfl) (by rfl) rfl rfl
          (fun j v => match j with | 0 => v = .pointer (some ⟨w.heap.size, 6, none⟩) | 1 => v = .int .i64 r | 2 => v = frV Rr | 3 => v = .pointer (some ⟨w.heap.size, 7, none⟩) | 4 => v = .int .i64 z | 5 => v = frV Zz | _ => False) ?step ?la ?lb ?sa ?sb ?fin)
    case step =>
      intro j o t act u hA hB ho hdt hsz hu hfr hin
      have hj : j < 10 := (Array.getElem?_eq_some_iff.1 ho).1
      obtain ⟨c0, c1, c2, c3, c4, c5, c6, c7⟩ := HC.out _ (b1w.trans hu)
      rcases (by omega : j = 0 ∨ j = 1 ∨ j = 2 ∨ j = 3 ∨ j = 4 ∨ j = 5 ∨ j = 6 ∨ j = 7 ∨ j = 8 ∨ j = 9) with rfl | rfl | rfl | rfl | rfl | rfl | rfl | rfl | rfl | rfl
      · simp only [List.getElem?_toArray, List.getElem?_cons_zero, List.getElem?_cons_succ, Option.some.injEq] at ho
        subst ho
        obtain rfl := Option.some.inj hdt
        have i1 : act.eval (.tmp (1 : Nat)) = .pointer (some ⟨w.heap.size, 0, none⟩) := hfr 1 (by decide)
        exact plain_wp (by intro c h; cases h) (fun _ _ => trivial) (by simp only [execOp, i1, evalC, evalF, evalG]; simp [go_sem, c6]) ⟨_, rfl, rfl, Bl.refl _⟩
      · simp only [List.getElem?_toArray, List.getElem?_cons_zero, List.getElem?_cons_succ, Option.some.injEq] at ho
        subst ho
        obtain rfl := Option.some.inj hdt
        have i26 : (act.eval (.tmp (26 : Nat))) = .pointer (some ⟨w.heap.size, 6, none⟩) := hin ⟨0, .data⟩ (by simp) rfl (by decide) (by decide) 26 rfl
        exact plain_wp (by intro c h; cases h) (fun _ _ => trivial) (by simp only [execOp, i26, evalC, evalF, evalG]; simp [go_sem, c6]) ⟨_, rfl, rfl, Bl.refl _⟩
      · simp only [List.getElem?_toArray, List.getElem?_cons_zero, List.getElem?_cons_succ, Option.some.injEq] at ho
        subst ho
        obtain rfl := Option.some.inj hdt
        have i27 : (act.eval (.tmp (27 : Nat))) = .int .i64 r := hin ⟨1, .data⟩ (by simp) rfl (by decide) (by decide) 27 rfl
        refine enter_wp 11 #[.int .i64 r, .int .i64 1] (by intro c h; cases h) (fun _ _ => trivial) (by simp only [execOp, evalC, evalF, evalG, resolve, i27, evalC, List.map_toArray, List.map_cons, List.map_nil]; simp [invoke, egQ, Result.andThen, go_sem]) (by intro h; cases h) (callsIn_wide.2 (new_any r 1 u)) ?_
        rintro e w' ⟨rfl, hb⟩
        exact ⟨_, rfl, _, rfl, show frV (newR r 1) = frV Rr from by rw [HRr.out], hb⟩
      · simp only [List.getElem?_toArray, List.getElem?_cons_zero, List.getElem?_cons_succ, Option.some.injEq] at ho
        subst ho
        obtain rfl := Option.some.inj hdt
        have i1 : act.eval (.tmp (1 : Nat)) = .pointer (some ⟨w.heap.size, 0, none⟩) := hfr 1 (by decide)
        exact plain_wp (by intro c h; cases h) (fun _ _ => trivial) (by simp only [execOp, i1, evalC, evalF, evalG]; simp [go_sem, c7]) ⟨_, rfl, rfl, Bl.refl _⟩
      · simp only [List.getElem?_toArray, List.getElem?_cons_zero, List.getElem?_cons_succ, Option.some.injEq] at ho
        subst ho
        obtain rfl := Option.some.inj hdt
        have i29 : (act.eval (.tmp (29 : Nat))) = .pointer (some ⟨w.heap.size, 7, none⟩) := hin ⟨3, .data⟩ (by simp) rfl (by decide) (by decide) 29 rfl
        exact plain_wp (by intro c h; cases h) (fun _ _ => trivial) (by simp only [execOp, i29, evalC, evalF, evalG]; simp [go_sem, c7]) ⟨_, rfl, rfl, Bl.refl _⟩
      · simp only [List.getElem?_toArray, List.getElem?_cons_zero, List.getElem?_cons_succ, Option.some.injEq] at ho
        subst ho
        obtain rfl := Option.some.inj hdt
        have i30 : (act.eval (.tmp (30 : Nat))) = .int .i64 z := hin ⟨4, .data⟩ (by simp) rfl (by decide) (by decide) 30 rfl
        refine enter_wp 11 #[.int .i64 z, .int .i64 1] (by intro c h; cases h) (fun _ _ => trivial) (by simp only [execOp, evalC, evalF, evalG, resolve, i30, evalC, List.map_toArray, List.map_cons, List.map_nil]; simp [invoke, egQ, Result.andThen, go_sem]) (by intro h; cases h) (callsIn_wide.2 (new_any z 1 u)) ?_
        rintro e w' ⟨rfl, hb⟩
        exact ⟨_, rfl, _, rfl, show frV (newR z 1) = frV Zz from by rw [HZz.out], hb⟩
      · exact absurd rfl hA
      · exact absurd rfl hB
      · simp only [List.getElem?_toArray, List.getElem?_cons_zero, List.getElem?_cons_succ, Option.some.injEq] at ho
        subst ho
        cases hdt
      · simp only [List.getElem?_toArray, List.getElem?_cons_zero, List.getElem?_cons_succ, Option.some.injEq] at ho
        subst ho
        cases hdt
    case la =>
      intro o act u ho
      simp only [List.getElem?_toArray, List.getElem?_cons_zero, List.getElem?_cons_succ, Option.some.injEq, Nat.reduceAdd] at ho
      subst ho
      exact plain_wp (by intro c h; cases h) (fun _ _ => trivial) (w' := u.alloc (.cells #[.int .i64 0, .int .i64 0, .bool false] 35)) (v := .pointer (some ⟨u.heap.size, 0, none⟩)) (by simp only [execOp]; simp [go_sem]) ⟨rfl, FBox.new u zeroR _, (Bl.refl _).alloc _, by simp⟩
    case lb =>
      intro o act u ho
      simp only [List.getElem?_toArray, List.getElem?_cons_zero, List.getElem?_cons_succ, Option.some.injEq, Nat.reduceAdd] at ho
      subst ho
      exact plain_wp (by intro c h; cases h) (fun _ _ => trivial) (w' := u.alloc (.cells #[.int .i64 0, .int .i64 0, .bool false] 35)) (v := .pointer (some ⟨u.heap.size, 0, none⟩)) (by simp only [execOp]; simp [go_sem]) ⟨rfl, FBox.new u zeroR _, (Bl.refl _).alloc _, by simp⟩
    case sa =>
      intro o act u b ho hA hz hbl hb hfr hin
      simp only [List.getElem?_toArray, List.getElem?_cons_zero, List.getElem?_cons_succ, Option.some.injEq, Nat.reduceAdd] at ho
      subst ho
      have i28 : (act.eval (.tmp (28 : Nat))) = frV Rr := hin ⟨2, .data⟩ (by simp) rfl (by decide) (by decide) 28 rfl
      obtain ⟨d0, d1, d2, g0, g1, g2, lt⟩ := (show FBox u b zeroR from hz)
      exact skip_wp (by intro c h; cases h) (fun _ _ => trivial) (by simp only [execOp, hA, i28]; simp [go_sem, d0, d1, d2, g0, g1, g2]) ⟨rfl, FBox.fill (show FBox u b zeroR from hz) _, Bl.set3 hbl hb _ _ _, fun b' h' => heap3F _ h' _ _ _, by simp⟩
    case sb =>
      intro o act u b ho hA hz hbl hb hfr hin
      simp only [List.getElem?_toArray, List.getElem?_cons_zero, List.getElem?_cons_succ, Option.some.injEq, Nat.reduceAdd] at ho
      subst ho
      have i31 : (act.eval (.tmp (31 : Nat))) = frV Zz := hin ⟨5, .data⟩ (by simp) rfl (by decide) (by decide) 31 rfl
      obtain ⟨d0, d1, d2, g0, g1, g2, lt⟩ := (show FBox u b zeroR from hz)
      exact skip_wp (by intro c h; cases h) (fun _ _ => trivial) (by simp only [execOp, hA, i31]; simp [go_sem, d0, d1, d2, g0, g1, g2]) ⟨rfl, FBox.fill (show FBox u b zeroR from hz) _, Bl.set3 hbl hb _ _ _, fun b' h' => heap3F _ h' _ _ _, by simp⟩
    case fin =>
      intro vs u b1 b2 hu eA eB hb1 hb2 lt1 lt2 hne hsa hsb hin
      have a0 := hin 0 26 (by decide) (by decide) rfl
      have a1 := hin 1 27 (by decide) (by decide) rfl
      have a2 := hin 2 28 (by decide) (by decide) rfl
      have a3 := hin 3 29 (by decide) (by decide) rfl
      have a4 := hin 4 30 (by decide) (by decide) rfl
      have a5 := hin 5 31 (by decide) (by decide) rfl
      simp only [putL, Act.put, List.setIfInBounds_toArray, List.set_cons_zero, List.set_cons_succ, Nat.zero_add, Nat.reduceAdd] at a0 a1 a2 a3 a4 a5 ⊢
      simp only [eA, eB, a0, a1, a2, a3, a4, a5]
      obtain ⟨w3, rfl⟩ : ∃ w3, w3 = u := ⟨_, rfl⟩
      have kr : FBox w3 b1 Rr := hsa
      have kz : FBox w3 b2 Zz := hsb
      have b3 : Bl W w3 := b1w.trans hu
      have B3 : Bl w w3 := b0.trans b3
      clear a0 a1 a2 a3 a4 a5 hin hsa hsb lt1 lt2 hb1 hb2
      go_wp2_with fail
      refine (wpIn_wide (n := 8)).1 (region_q fm [some 32, some 33, some 34, some 35, some 36, some 37, some 38, some 39, some 40, some 5, some 6] (fun _ => false) 11 (by kernel_rfl) (by rfl)
            (fun j v u => match j with | 0 => v = .pointer (some ⟨w.heap.size, 5, none⟩) | 1 => v = .slice ph m ch | 2 => ∃ q c, v = .slice q m c ∧ Rw 3 cellsF u (.slice q m c) (linJ m (fun i => wholeF (H.getD i 0))) | 3 => v = .pointer (some ⟨w.heap.size, 3, none⟩) | 4 => v = .slice pf N cf | 5 => v = .pointer (some ⟨w.heap.size, 0, none⟩) | 6 => v = .int .i64 m | 7 => v = .slice pf m cf | 8 => ∃ q c, v = .slice q m c ∧ Rw 3 cellsF u (.slice q m c) (linJ m (fun i => wholeF (Fm.getD i 0))) | 9 => ∃ q c, v = .slice q m c ∧ Rw 3 cellsF u (.slice q m c) (linJ m (fun i => wholeF (H.getD i 0))) | 10 => ∃ q c, v = .slice q m c ∧ Rw 3 cellsF u (.slice q m c) (linJ m (fun i => wholeF (Fm.getD i 0))) | _ => False)
            (by
              intro j v u u' hb h
              split at h <;> first | exact h | (obtain ⟨q, c, e, h1⟩ := h; exact ⟨q, c, e, h1.later hb⟩)) (fun vs u0 u => True) ?step ?still ?store ?fin)
      case step =>
        intro j o t act u ho hdt hpu hsz hu hfr hin
        have hj : j < 11 := (Array.getElem?_eq_some_iff.1 ho).1
        obtain ⟨c0, c1, c2, c3, c4, c5, c6, c7⟩ := HC.out _ (b3.trans hu)
        rcases (by omega : j = 0 ∨ j = 1 ∨ j = 2 ∨ j = 3 ∨ j = 4 ∨ j = 5 ∨ j = 6 ∨ j = 7 ∨ j = 8 ∨ j = 9 ∨ j = 10) with rfl | rfl | rfl | rfl | rfl | rfl | rfl | rfl | rfl | rfl | rfl
        · simp only [List.getElem?_toArray, List.getElem?_cons_zero, List.getElem?_cons_succ, Option.some.injEq] at ho
          subst ho
          obtain rfl := Option.some.inj hdt
          have i1 : act.eval (.tmp (1 : Nat)) = .pointer (some ⟨w.heap.size, 0, none⟩) := hfr 1 (by decide)
          exact plain_wp (by intro c h; cases h) (fun _ _ => trivial) (by simp only [execOp, i1, evalC, evalF, evalG]; simp [go_sem, c5]) ⟨_, rfl, rfl, Bl.refl _⟩
        · simp only [List.getElem?_toArray, List.getElem?_cons_zero, List.getElem?_cons_succ, Option.some.injEq] at ho
          subst ho
          obtain rfl := Option.some.inj hdt
          have i32 : (act.eval (.tmp (32 : Nat))) = .pointer (some ⟨w.heap.size, 5, none⟩) := hin ⟨0, .data⟩ (by simp) rfl 32 rfl
          exact plain_wp (by intro c h; cases h) (fun _ _ => trivial) (by simp only [execOp, i32, evalC, evalF, evalG]; simp [go_sem, c5]) ⟨_, rfl, rfl, Bl.refl _⟩
        · simp only [List.getElem?_toArray, List.getElem?_cons_zero, List.getElem?_cons_succ, Option.some.injEq] at ho
          subst ho
          obtain rfl := Option.some.inj hdt
          have i33 : (act.eval (.tmp (33 : Nat))) = .slice ph m ch := hin ⟨1, .data⟩ (by simp) rfl 33 rfl
          refine enter_wp 9 #[.slice ph m ch] (by intro c h; cases h) (fun _ _ => trivial) (by simp only [execOp, evalC, evalF, evalG, resolve, i33, List.map_toArray, List.map_cons, List.map_nil]; simp [invoke, egW, Result.andThen, go_sem]) (by intro h; cases h) (callsIn_wide.2 (whole_linF ph m ch (fun i => H.getD i 0) u (HHR.out.later (B3.trans hu)) (by omega))) ?_
          rintro e w' ⟨q, c, rfl, hR, hb⟩
          exact ⟨_, rfl, _, rfl, ⟨q, c, rfl, hR⟩, hb⟩
        · simp only [List.getElem?_toArray, List.getElem?_cons_zero, List.getElem?_cons_succ, Option.some.injEq] at ho
          subst ho
          obtain rfl := Option.some.inj hdt
          have i1 : act.eval (.tmp (1 : Nat)) = .pointer (some ⟨w.heap.size, 0, none⟩) := hfr 1 (by decide)
          exact plain_wp (by intro c h; cases h) (fun _ _ => trivial) (by simp only [execOp, i1, evalC, evalF, evalG]; simp [go_sem, c3]) ⟨_, rfl, rfl, Bl.refl _⟩
        · simp only [List.getElem?_toArray, List.getElem?_cons_zero, List.getElem?_cons_succ, Option.some.injEq] at ho
          subst ho
          obtain rfl := Option.some.inj hdt
          have i35 : (act.eval (.tmp (35 : Nat))) = .pointer (some ⟨w.heap.size, 3, none⟩) := hin ⟨3, .data⟩ (by simp) rfl 35 rfl
          exact plain_wp (by intro c h; cases h) (fun _ _ => trivial) (by simp only [execOp, i35, evalC, evalF, evalG]; simp [go_sem, c3]) ⟨_, rfl, rfl, Bl.refl _⟩
        · simp only [List.getElem?_toArray, List.getElem?_cons_zero, List.getElem?_cons_succ, Option.some.injEq] at ho
          subst ho
          obtain rfl := Option.some.inj hdt
          have i1 : act.eval (.tmp (1 : Nat)) = .pointer (some ⟨w.heap.size, 0, none⟩) := hfr 1 (by decide)
          exact plain_wp (by intro c h; cases h) (fun _ _ => trivial) (by simp only [execOp, i1, evalC, evalF, evalG]; simp [go_sem, c0]) ⟨_, rfl, rfl, Bl.refl _⟩
        · simp only [List.getElem?_toArray, List.getElem?_cons_zero, List.getElem?_cons_succ, Option.some.injEq] at ho
          subst ho
          obtain rfl := Option.some.inj hdt
          have i37 : (act.eval (.tmp (37 : Nat))) = .pointer (some ⟨w.heap.size, 0, none⟩) := hin ⟨5, .data⟩ (by simp) rfl 37 rfl
          exact plain_wp (by intro c h; cases h) (fun _ _ => trivial) (by simp only [execOp, i37, evalC, evalF, evalG]; simp [go_sem, c0]) ⟨_, rfl, rfl, Bl.refl _⟩
        · simp only [List.getElem?_toArray, List.getElem?_cons_zero, List.getElem?_cons_succ, Option.some.injEq] at ho
          subst ho
          obtain rfl := Option.some.inj hdt
          have i36 : (act.eval (.tmp (36 : Nat))) = .slice pf N cf := hin ⟨4, .data⟩ (by simp) rfl 36 rfl
          have i38 : (act.eval (.tmp (38 : Nat))) = .int .i64 m := hin ⟨6, .data⟩ (by simp) rfl 38 rfl
          exact plain_wp (by intro c h; cases h) (fun _ _ => trivial) (by simp only [execOp, Option.map_some, Option.map_none, i36, i38]; simp [go_sem, SL9]) ⟨_, rfl, rfl, Bl.refl _⟩
        · simp only [List.getElem?_toArray, List.getElem?_cons_zero, List.getElem?_cons_succ, Option.some.injEq] at ho
          subst ho
          obtain rfl := Option.some.inj hdt
          have i39 : (act.eval (.tmp (39 : Nat))) = .slice pf m cf := hin ⟨7, .data⟩ (by simp) rfl 39 rfl
          refine enter_wp 9 #[.slice pf m cf] (by intro c h; cases h) (fun _ _ => trivial) (by simp only [execOp, evalC, evalF, evalG, resolve, i39, List.map_toArray, List.map_cons, List.map_nil]; simp [invoke, egW, Result.andThen, go_sem]) (by intro h; cases h) (callsIn_wide.2 (whole_linF pf m cf (fun i => Fm.getD i 0) u (HFT.out.later (B3.trans hu)) (by omega))) ?_
          rintro e w' ⟨q, c, rfl, hR, hb⟩
          exact ⟨_, rfl, _, rfl, ⟨q, c, rfl, hR⟩, hb⟩
        · simp only [List.getElem?_toArray, List.getElem?_cons_zero, List.getElem?_cons_succ, Option.some.injEq] at ho
          subst ho
          obtain rfl := Option.some.inj hdt
          have i34 : ∃ q c, (act.eval (.tmp (34 : Nat))) = .slice q m c ∧ Rw 3 cellsF u (.slice q m c) (linJ m (fun i => wholeF (H.getD i 0))) := hin ⟨2, .data⟩ (by simp) rfl 34 rfl
          obtain ⟨q0, cc0, e0, hq⟩ := i34
          exact plain_wp (by intro c h; cases h) (fun _ _ => trivial) (by simp only [execOp, e0]; simp [go_sem]) ⟨_, rfl, ⟨q0, cc0, rfl, hq⟩, Bl.refl _⟩
        · simp only [List.getElem?_toArray, List.getElem?_cons_zero, List.getElem?_cons_succ, Option.some.injEq] at ho
          subst ho
          obtain rfl := Option.some.inj hdt
          have i40 : ∃ q c, (act.eval (.tmp (40 : Nat))) = .slice q m c ∧ Rw 3 cellsF u (.slice q m c) (linJ m (fun i => wholeF (Fm.getD i 0))) := hin ⟨8, .data⟩ (by simp) rfl 40 rfl
          obtain ⟨q0, cc0, e0, hq⟩ := i40
          exact plain_wp (by intro c h; cases h) (fun _ _ => trivial) (by simp only [execOp, e0]; simp [go_sem]) ⟨_, rfl, ⟨q0, cc0, rfl, hq⟩, Bl.refl _⟩
      case still =>
        intro j o t act u0 u ho hdt hpu
        cases hpu
      case store =>
        intro o act u vs ho
        cases ho
      case fin =>
        intro vs vb u0 u hu hin hps
        have a0 := hin 0 32 rfl
        have a1 := hin 1 33 rfl
        have a2 := hin 2 34 rfl
        have a3 := hin 3 35 rfl
        have a4 := hin 4 36 rfl
        have a5 := hin 5 37 rfl
        have a6 := hin 6 38 rfl
        have a7 := hin 7 39 rfl
        have a8 := hin 8 40 rfl
        have a9 := hin 9 5 rfl
        have a10 := hin 10 6 rfl
        simp only [putL, Act.put, List.setIfInBounds_toArray, List.set_cons_zero, List.set_cons_succ, Nat.zero_add, Nat.reduceAdd, Nat.reduceBEq, Bool.or_false, Bool.or_true, Bool.false_or, Bool.true_or, Bool.false_eq_true, if_false, if_true, reduceIte, Nat.reduceEqDiff, beq_self_eq_true, Bool.or_self] at a0 a1 a2 a3 a4 a5 a6 a7 a8 a9 a10 ⊢
        rw [if_neg (by decide)] at hps
        simp only [a0, a1, a3, a4, a5, a6, a7]
        obtain rfl := hps
        obtain ⟨gq, gc, eg, hG⟩ := a9
        obtain ⟨hq, hc, eh, hH⟩ := a10
        simp only [eg, eh]
        obtain ⟨w4, rfl⟩ : ∃ w4, w4 = u := ⟨_, rfl⟩
        have HH4 := hideP hG
        have HG4 := hideP hH
        have b34 : Bl w3 w4 := hu
        have b4 : Bl W w4 := b3.trans hu
        have B4 : Bl w w4 := b0.trans b4
        clear a2 a8 hG hH hin
        go_wp2_with fail
        refine (wpIn_wide (n := 8)).1 (region_u (updF_ok (m) (N) (upXJ kdF m (fun i => wholeF (X.getD i 0)) (squareJ kdF m (fun i k => wholeF (ofL m Ro i k))) (fun i => wholeF (H.getD i 0)) Rr Zz) (upPJ kdF (fun i j => wholeF (unitI i j)) m (squareJ kdF m (fun i k => wholeF (ofL m Ro i k))) (fun i => wholeF (H.getD i 0)) Rr) (surpJ kdF m (fun i => wholeF (X.getD i 0)) (fun i => wholeF (H.getD i 0)) Zz) (spreadJ kdF m (squareJ kdF m (fun i k => wholeF (ofL m Ro i k))) (fun i => wholeF (H.getD i 0)) Rr)) fm [some 42, some 43, some 44, some 45, some 46, some 47, some 41, some 48, some 49, some 50, some 7, some 8, none, none, some 9] 5 (by kernel_rfl) (by rfl) 47 41 48 49 50 7 8 9 rfl
              (fun j v u => match j with | 0 => v = .agg #[.int .i64 m, .slice px m cx, .slice pr N cr, .slice pf N cf, .slice pg N cg, .slice ph m ch, .int .i64 r, .int .i64 z] | 1 => ∃ q c p' c', v = sJ q m c m m p' N c' ∧ Rw 3 cellsF u (.slice q m c) (linJ m (fun i => wholeF (X.getD i 0))) ∧ Mx 3 cellsF u m m p' N c' (squareJ kdF m (fun i k => wholeF (ofL m Ro i k))) | 2 => v = .slice gq m gc | 3 => v = frV Rr | 4 => v = frV Zz | _ => False)
              (by
                intro j v u u' hb h
                split at h <;> first | exact h | (obtain ⟨q, c, p', c', e, h1, h2⟩ := h; exact ⟨q, c, p', c', e, h1.later hb, Mx.later h2 hb⟩) | (obtain ⟨q, c, e, h1⟩ := h; exact ⟨q, c, e, h1.later hb⟩) | (obtain ⟨g, e, h1⟩ := h; exact ⟨g, e, h1.later hb⟩)) ?step ?call ?mv ?x0 ?x1 ?x2 ?la ?lb ?sa ?sb ?asg ?fin)
        case step =>
          intro j o t act u hjk ho hdt hsz hu hfr hin
          obtain ⟨c0, c1, c2, c3, c4, c5, c6, c7⟩ := HC.out _ (b4.trans hu)
          rcases (by omega : j = 0 ∨ j = 1 ∨ j = 2 ∨ j = 3 ∨ j = 4) with rfl | rfl | rfl | rfl | rfl
          · simp only [List.getElem?_toArray, List.getElem?_cons_zero, List.getElem?_cons_succ, Option.some.injEq] at ho
            subst ho
            obtain rfl := Option.some.inj hdt
            have i1 : act.eval (.tmp (1 : Nat)) = .pointer (some ⟨w.heap.size, 0, none⟩) := hfr 1 (by decide)
            exact plain_wp (by intro c h; cases h) (fun _ _ => trivial) (by simp only [execOp, i1, evalC, evalF, evalG]; simp [go_sem, c0, c1, c2, c3, c4, c5, c6, c7]) ⟨_, rfl, rfl, Bl.refl _⟩
          · simp only [List.getElem?_toArray, List.getElem?_cons_zero, List.getElem?_cons_succ, Option.some.injEq] at ho
            subst ho
            obtain rfl := Option.some.inj hdt
            have i42 : (act.eval (.tmp (42 : Nat))) = .agg #[.int .i64 m, .slice px m cx, .slice pr N cr, .slice pf N cf, .slice pg N cg, .slice ph m ch, .int .i64 r, .int .i64 z] := hin ⟨0, .data⟩ (by simp) rfl 42 rfl
            refine enter_wp 8 #[.agg #[.int .i64 m, .slice px m cx, .slice pr N cr, .slice pf N cf, .slice pg N cg, .slice ph m ch, .int .i64 r, .int .i64 z]] (by intro c h; cases h) (fun _ _ => trivial) (by simp only [execOp, evalC, evalF, evalG, resolve, i42, List.map_toArray, List.map_cons, List.map_nil]; simp [invoke, egS, Result.andThen, go_sem]) (by intro h; cases h) (callsIn_wide.2 (start9_any m N r z px pr cx cr (.slice pf N cf) (.slice pg N cg) (.slice ph m ch) X Ro u rfl rfl rfl (HXR0.out.later (B4.trans hu)) (HRR.out.later (B4.trans hu)) hlx'.out hlr'.out m1 m3 HNN.out)) ?_
            rintro e w' ⟨q, c, p', c', rfl, ⟨hR, hM⟩, hb⟩
            exact ⟨_, rfl, _, rfl, ⟨q, c, p', c', rfl, hR, hM⟩, hb⟩
          · simp only [List.getElem?_toArray, List.getElem?_cons_zero, List.getElem?_cons_succ, Option.some.injEq] at ho
            subst ho
            obtain rfl := Option.some.inj hdt
            have i5 : act.eval (.tmp (5 : Nat)) = .slice gq m gc := hfr 5 (by decide)
            exact plain_wp (by intro c h; cases h) (fun _ _ => trivial) (by simp only [execOp, i5, evalC, evalF, evalG]; simp [go_sem]) ⟨_, rfl, rfl, Bl.refl _⟩
          · simp only [List.getElem?_toArray, List.getElem?_cons_zero, List.getElem?_cons_succ, Option.some.injEq] at ho
            subst ho
            obtain rfl := Option.some.inj hdt
            have i3 : act.eval (.tmp (3 : Nat)) = .pointer (some ⟨b1, 0, none⟩) := hfr 3 (by decide)
            obtain ⟨d0, d1, d2, _, _, _, _⟩ := kr.later (b34.trans hu)
            exact plain_wp (by intro c h; cases h) (fun _ _ => trivial) (by simp only [execOp, i3, evalC, evalF, evalG]; simp [go_sem, d0, d1, d2]) ⟨_, rfl, rfl, Bl.refl _⟩
          · simp only [List.getElem?_toArray, List.getElem?_cons_zero, List.getElem?_cons_succ, Option.some.injEq] at ho
            subst ho
            obtain rfl := Option.some.inj hdt
            have i4 : act.eval (.tmp (4 : Nat)) = .pointer (some ⟨b2, 0, none⟩) := hfr 4 (by decide)
            obtain ⟨d0, d1, d2, _, _, _, _⟩ := kz.later (b34.trans hu)
            exact plain_wp (by intro c h; cases h) (fun _ _ => trivial) (by simp only [execOp, i4, evalC, evalF, evalG]; simp [go_sem, d0, d1, d2]) ⟨_, rfl, rfl, Bl.refl _⟩
        case call =>
          intro o act u ho hsz hu hfr hin
          obtain ⟨c0, c1, c2, c3, c4, c5, c6, c7⟩ := HC.out _ (b4.trans hu)
          simp only [List.getElem?_toArray, List.getElem?_cons_zero, List.getElem?_cons_succ, Option.some.injEq, Nat.reduceAdd] at ho
          subst ho
          have i43 : ∃ q c p' c', (act.eval (.tmp (43 : Nat))) = sJ q m c m m p' N c' ∧ Rw 3 cellsF u (.slice q m c) (linJ m (fun i => wholeF (X.getD i 0))) ∧ Mx 3 cellsF u m m p' N c' (squareJ kdF m (fun i k => wholeF (ofL m Ro i k))) := hin ⟨1, .data⟩ (by simp) rfl 43 rfl
          have i44 : (act.eval (.tmp (44 : Nat))) = .slice gq m gc := hin ⟨2, .data⟩ (by simp) rfl 44 rfl
          have i45 : (act.eval (.tmp (45 : Nat))) = frV Rr := hin ⟨3, .data⟩ (by simp) rfl 45 rfl
          have i46 : (act.eval (.tmp (46 : Nat))) = frV Zz := hin ⟨4, .data⟩ (by simp) rfl 46 rfl
          obtain ⟨q0, cc0, p0, d0, e0, hR, hM⟩ := i43
          refine enter_wp 10 #[sJ q0 m cc0 m m p0 N d0, .slice gq m gc, frV Rr, frV Zz] (by intro c h; cases h) (fun _ _ => trivial) (by simp only [execOp, evalC, evalF, evalG, resolve, e0, i44, i45, i46, List.map_toArray, List.map_cons, List.map_nil]; simp [invoke, egU, Result.andThen, go_sem]) (by intro h; cases h) (callsIn_wide.2 (jUpdateF m N q0 cc0 (fun i => wholeF (X.getD i 0)) p0 d0 (squareJ kdF m (fun i k => wholeF (ofL m Ro i k))) gq gc (fun i => wholeF (H.getD i 0)) Rr Zz u hR.q hM (HH4.out.later ((Bl.refl _).trans hu)).q hm4)) ?_
          rintro e w' ⟨q, c, p', c', rfl, ⟨hR, hM, hF1, hF2⟩, hb⟩
          exact ⟨_, rfl, (q, c, p', c'), rfl, ⟨hR, hM⟩, hb, fun b hb' _ => ⟨fun g hg => by have := hF1 g hg; omega, fun g hg => by have := hF2 g hg; omega⟩⟩
        case mv =>
          intro o act u x ho hx
          simp only [List.getElem?_toArray, List.getElem?_cons_zero, List.getElem?_cons_succ, Option.some.injEq, Nat.reduceAdd] at ho
          subst ho
          exact plain_wp (by intro c h; cases h) (fun _ _ => trivial) (by simp only [execOp, hx]; simp [go_sem]) ⟨rfl, rfl⟩
        case x0 =>
          intro o act u x y z ho hx
          simp only [List.getElem?_toArray, List.getElem?_cons_zero, List.getElem?_cons_succ, Option.some.injEq, Nat.reduceAdd] at ho
          subst ho
          exact plain_wp (by intro c h; cases h) (fun _ _ => trivial) (by simp only [execOp, hx]; simp [go_sem]) ⟨rfl, rfl⟩
        case x1 =>
          intro o act u x y z ho hx
          simp only [List.getElem?_toArray, List.getElem?_cons_zero, List.getElem?_cons_succ, Option.some.injEq, Nat.reduceAdd] at ho
          subst ho
          exact plain_wp (by intro c h; cases h) (fun _ _ => trivial) (by simp only [execOp, hx]; simp [go_sem]) ⟨rfl, rfl⟩
        case x2 =>
          intro o act u x y z ho hx
          simp only [List.getElem?_toArray, List.getElem?_cons_zero, List.getElem?_cons_succ, Option.some.injEq, Nat.reduceAdd] at ho
          subst ho
          exact plain_wp (by intro c h; cases h) (fun _ _ => trivial) (by simp only [execOp, hx]; simp [go_sem]) ⟨rfl, rfl⟩
        case la =>
          intro o act u ho
          simp only [List.getElem?_toArray, List.getElem?_cons_zero, List.getElem?_cons_succ, Option.some.injEq, Nat.reduceAdd] at ho
          subst ho
          exact plain_wp (by intro c h; cases h) (fun _ _ => trivial) (w' := u.alloc (.cells #[.slice none 0 0, .int .i64 0, .int .i64 0, .slice none 0 0] 31)) (v := .pointer (some ⟨u.heap.size, 0, none⟩)) (by simp only [execOp]; simp [go_sem]) ⟨rfl, SBox.new u _ _ _ _ _ _ _ _ _, (Bl.refl _).alloc _, by simp⟩
        case lb =>
          intro o act u ho
          simp only [List.getElem?_toArray, List.getElem?_cons_zero, List.getElem?_cons_succ, Option.some.injEq, Nat.reduceAdd] at ho
          subst ho
          exact plain_wp (by intro c h; cases h) (fun _ _ => trivial) (w' := u.alloc (.cells #[.int .i64 0, .int .i64 0, .bool false, .int .i64 0, .int .i64 0, .bool false] 37)) (v := .pointer (some ⟨u.heap.size, 0, none⟩)) (by simp only [execOp]; simp [go_sem]) ⟨rfl, NBoxF.new u zeroR zeroR _, (Bl.refl _).alloc _, by simp⟩
        case sa =>
          intro o act u D b ho hA h0 hz hdat hoff hbl hb
          simp only [List.getElem?_toArray, List.getElem?_cons_zero, List.getElem?_cons_succ, Option.some.injEq, Nat.reduceAdd] at ho
          subst ho
          obtain ⟨q0, c0, p0, c1⟩ := D
          replace h0 : act.eval (.tmp 48) = sJ q0 (m) c0 (m) (m) p0 (N) c1 := h0
          obtain ⟨d0, d1, d2, d3, g0, g1, g2, g3, lt⟩ := (show SBox u b none 0 0 0 0 none 0 0 from hz)
          exact skip_wp (by intro c h; cases h) (fun _ _ => trivial) (by simp only [execOp, hA, h0]; simp [go_sem, d0, d1, d2, d3, g0, g1, g2, g3]) ⟨rfl, SBox.fill (show SBox u b none 0 0 0 0 none 0 0 from hz) _ _ _ _ _ _ _ _, ⟨hdat.1.but (but4F _ _ _ _ _ _) (fun g hg => hoff.1 g hg), hdat.2.but (but4F _ _ _ _ _ _) (fun g hg => hoff.2 g hg)⟩, Bl.put4 hbl hb _ _ _ _, fun b' h' => heap4F _ h' _ _ _ _, by simp⟩
        case sb =>
          intro o act u D b ho hA h0 hz hdat hoff hbl hb
          simp only [List.getElem?_toArray, List.getElem?_cons_zero, List.getElem?_cons_succ, Option.some.injEq, Nat.reduceAdd] at ho
          subst ho
          obtain ⟨q0, c0, p0, c1⟩ := D
          replace h0 : act.eval (.tmp 49) = newsVF (surpJ kdF m (fun i => wholeF (X.getD i 0)) (fun i => wholeF (H.getD i 0)) Zz) (spreadJ kdF m (squareJ kdF m (fun i k => wholeF (ofL m Ro i k))) (fun i => wholeF (H.getD i 0)) Rr) := h0
          obtain ⟨d0, d1, d2, d3, d4, d5, g0, g1, g2, g3, g4, g5, lt⟩ := (show NBoxF u b zeroR zeroR from hz)
          exact skip_wp (by intro c h; cases h) (fun _ _ => trivial) (by simp only [execOp, hA, h0]; simp [go_sem, d0, d1, d2, d3, d4, d5, g0, g1, g2, g3, g4, g5]) ⟨rfl, NBoxF.fill (show NBoxF u b zeroR zeroR from hz) _ _, ⟨hdat.1.but (butNF _ _ _ _) (fun g hg => hoff.1 g hg), hdat.2.but (butNF _ _ _ _) (fun g hg => hoff.2 g hg)⟩, blNF b hbl hb _ _, fun b' h' => heapNF _ h' _ _, by simp⟩
        case asg =>
          intro o act u x ho hx
          simp only [List.getElem?_toArray, List.getElem?_cons_zero, List.getElem?_cons_succ, Option.some.injEq, Nat.reduceAdd] at ho
          subst ho
          exact plain_wp (by intro c h; cases h) (fun _ _ => trivial) (by simp only [execOp, hx]; simp [go_sem]) ⟨rfl, rfl⟩
        case fin =>
          intro vs u D b5 n5 hu e9' e5' e6' hb1 hb2 hsa hsb hdat
          simp only [putL, Act.put, List.setIfInBounds_toArray, List.set_cons_zero, List.set_cons_succ, Nat.zero_add, Nat.reduceAdd] at e9' e5' e6' ⊢
          replace e9' := Eq.trans e9' (show _ = Value.bool true from rfl)
          simp only [e9', e5', e6']
          obtain ⟨q5, cq5, p5, c5'⟩ := D
          obtain ⟨w5, rfl⟩ : ∃ w5, w5 = u := ⟨_, rfl⟩
          have k5 : SBox w5 b5 q5 m cq5 m m p5 N c5' := hsa
          have HD5 : Rw 3 cellsF w5 (.slice q5 m cq5) (linJ m (upXJ kdF m (fun i => wholeF (X.getD i 0)) (squareJ kdF m (fun i k => wholeF (ofL m Ro i k))) (fun i => wholeF (H.getD i 0)) Rr Zz)) ∧ Mx 3 cellsF w5 m m p5 N c5' (upPJ kdF (fun i j => wholeF (unitI i j)) m (squareJ kdF m (fun i k => wholeF (ofL m Ro i k))) (fun i => wholeF (H.getD i 0)) Rr) := hdat
          have HR5 := hideP HD5.1
          have HM5 := hideP HD5.2
          have B45 : Bl w4 w5 := hu
          clear hsa hsb hdat HD5
          obtain ⟨E6, hE6⟩ : ∃ e : Fr, e = surpJ kdF m (upXJ kdF m (fun i => wholeF (X.getD i 0)) (squareJ kdF m (fun i k => wholeF (ofL m Ro i k))) (fun i => wholeF (H.getD i 0)) Rr Zz) (fun i => wholeF (Fm.getD i 0)) Zz := ⟨_, rfl⟩
          obtain ⟨A6, hA6⟩ : ∃ e : Fr, e = spreadJ kdF m (upPJ kdF (fun i j => wholeF (unitI i j)) m (squareJ kdF m (fun i k => wholeF (ofL m Ro i k))) (fun i => wholeF (H.getD i 0)) Rr) (fun i => wholeF (Fm.getD i 0)) Rr := ⟨_, rfl⟩
          have UPD := hideP (by have := jUpdateF m N q5 cq5 (upXJ kdF m (fun i => wholeF (X.getD i 0)) (squareJ kdF m (fun i k => wholeF (ofL m Ro i k))) (fun i => wholeF (H.getD i 0)) Rr Zz) p5 c5' (upPJ kdF (fun i j => wholeF (unitI i j)) m (squareJ kdF m (fun i k => wholeF (ofL m Ro i k))) (fun i => wholeF (H.getD i 0)) Rr) hq hc (fun i => wholeF (Fm.getD i 0)) Rr Zz w5 HR5.out.q HM5.out (HG4.out.later B45).q hm4; rw [← hE6, ← hA6] at this; exact this)
          clear hE6 hA6
          obtain ⟨s0, s1, s2, s3, _, _, _, _, _⟩ := id k5
          obtain ⟨r0, r1, r2, _, _, _, _⟩ := kr.later (b34.trans B45)
          obtain ⟨z0, z1, z2, _, _, _, _⟩ := kz.later (b34.trans B45)
          go_wp2_with fail
          refine UPD.out.mono ?_
          rintro e w6 ⟨q6, cq6, p6, c6, rfl, ⟨hR, hM, _, _⟩, h6⟩
          clear s0 s1 s2 s3 r0 r1 r2 z0 z1 z2 UPD
          obtain ⟨W6, hW6⟩ : ∃ W6, W6 = (w6.alloc (.cells #[.slice q6 m cq6, .int .i64 m, .int .i64 m, .slice p6 N c6] 31)).alloc (.cells #[.int .i64 E6.n, .int .i64 E6.d, .bool E6.bad, .int .i64 A6.n, .int .i64 A6.d, .bool A6.bad] 37) := ⟨_, rfl⟩
          have b6 : Bl w6 W6 := by rw [hW6]; exact ((Bl.refl _).alloc _).alloc _
          have k6 : SBox W6 w6.heap.size q6 m cq6 m m p6 N c6 := by rw [hW6]; exact (SBox.new w6 _ _ _ _ _ _ _ _ _).later ((Bl.refl _).alloc _)
          have HR6 := hideP (hR.later b6)
          have HM6 := hideP (Mx.later hM b6)
          have B6 : Bl w5 W6 := h6.trans b6
          have HW6 := hideP hW6
          clear hW6 hR hM
          go_wp2_with fail
          rw [← HW6.out]
          have B46 : Bl w4 W6 := B45.trans B6
          refine (wpIn_wide (n := 8)).1 (region_u (updF_ok (m) (N) (upXJ kdF m (fun i => wholeF (X.getD i 0)) (squareJ kdF m (fun i k => wholeF (ofL m Ro i k))) (fun i => wholeF (Fm.getD i 0)) Rr Zz) (upPJ kdF (fun i j => wholeF (unitI i j)) m (squareJ kdF m (fun i k => wholeF (ofL m Ro i k))) (fun i => wholeF (Fm.getD i 0)) Rr) (surpJ kdF m (fun i => wholeF (X.getD i 0)) (fun i => wholeF (Fm.getD i 0)) Zz) (spreadJ kdF m (squareJ kdF m (fun i k => wholeF (ofL m Ro i k))) (fun i => wholeF (Fm.getD i 0)) Rr)) fm [some 61, some 62, some 63, some 64, some 65, some 66, some 60, some 67, some 68, some 69, some 13, some 14, none, none, some 15] 5 (by kernel_rfl) (by rfl) 66 60 67 68 69 13 14 15 rfl
                (fun j v u => match j with | 0 => v = .agg #[.int .i64 m, .slice px m cx, .slice pr N cr, .slice pf N cf, .slice pg N cg, .slice ph m ch, .int .i64 r, .int .i64 z] | 1 => ∃ q c p' c', v = sJ q m c m m p' N c' ∧ Rw 3 cellsF u (.slice q m c) (linJ m (fun i => wholeF (X.getD i 0))) ∧ Mx 3 cellsF u m m p' N c' (squareJ kdF m (fun i k => wholeF (ofL m Ro i k))) | 2 => v = .slice hq m hc | 3 => v = frV Rr | 4 => v = frV Zz | _ => False)
                (by
                  intro j v u u' hb h
                  split at h <;> first | exact h | (obtain ⟨q, c, p', c', e, h1, h2⟩ := h; exact ⟨q, c, p', c', e, h1.later hb, Mx.later h2 hb⟩) | (obtain ⟨q, c, e, h1⟩ := h; exact ⟨q, c, e, h1.later hb⟩) | (obtain ⟨g, e, h1⟩ := h; exact ⟨g, e, h1.later hb⟩)) ?step ?call ?mv ?x0 ?x1 ?x2 ?la ?lb ?sa ?sb ?asg ?fin)
          case step =>
            intro j o t act u hjk ho hdt hsz hu hfr hin
            obtain ⟨c0, c1, c2, c3, c4, c5, c6, c7⟩ := HC.out _ ((b4.trans B46).trans hu)
            rcases (by omega : j = 0 ∨ j = 1 ∨ j = 2 ∨ j = 3 ∨ j = 4) with rfl | rfl | rfl | rfl | rfl
            · simp only [List.getElem?_toArray, List.getElem?_cons_zero, List.getElem?_cons_succ, Option.some.injEq] at ho
              subst ho
              obtain rfl := Option.some.inj hdt
              have i1 : act.eval (.tmp (1 : Nat)) = .pointer (some ⟨w.heap.size, 0, none⟩) := hfr 1 (by decide)
              exact plain_wp (by intro c h; cases h) (fun _ _ => trivial) (by simp only [execOp, i1, evalC, evalF, evalG]; simp [go_sem, c0, c1, c2, c3, c4, c5, c6, c7]) ⟨_, rfl, rfl, Bl.refl _⟩
            · simp only [List.getElem?_toArray, List.getElem?_cons_zero, List.getElem?_cons_succ, Option.some.injEq] at ho
              subst ho
              obtain rfl := Option.some.inj hdt
              have i61 : (act.eval (.tmp (61 : Nat))) = .agg #[.int .i64 m, .slice px m cx, .slice pr N cr, .slice pf N cf, .slice pg N cg, .slice ph m ch, .int .i64 r, .int .i64 z] := hin ⟨0, .data⟩ (by simp) rfl 61 rfl
              refine enter_wp 8 #[.agg #[.int .i64 m, .slice px m cx, .slice pr N cr, .slice pf N cf, .slice pg N cg, .slice ph m ch, .int .i64 r, .int .i64 z]] (by intro c h; cases h) (fun _ _ => trivial) (by simp only [execOp, evalC, evalF, evalG, resolve, i61, List.map_toArray, List.map_cons, List.map_nil]; simp [invoke, egS, Result.andThen, go_sem]) (by intro h; cases h) (callsIn_wide.2 (start9_any m N r z px pr cx cr (.slice pf N cf) (.slice pg N cg) (.slice ph m ch) X Ro u rfl rfl rfl (HXR0.out.later ((B4.trans B46).trans hu)) (HRR.out.later ((B4.trans B46).trans hu)) hlx'.out hlr'.out m1 m3 HNN.out)) ?_
              rintro e w' ⟨q, c, p', c', rfl, ⟨hR, hM⟩, hb⟩
              exact ⟨_, rfl, _, rfl, ⟨q, c, p', c', rfl, hR, hM⟩, hb⟩
            · simp only [List.getElem?_toArray, List.getElem?_cons_zero, List.getElem?_cons_succ, Option.some.injEq] at ho
              subst ho
              obtain rfl := Option.some.inj hdt
              have i6 : act.eval (.tmp (6 : Nat)) = .slice hq m hc := hfr 6 (by decide)
              exact plain_wp (by intro c h; cases h) (fun _ _ => trivial) (by simp only [execOp, i6, evalC, evalF, evalG]; simp [go_sem]) ⟨_, rfl, rfl, Bl.refl _⟩
            · simp only [List.getElem?_toArray, List.getElem?_cons_zero, List.getElem?_cons_succ, Option.some.injEq] at ho
              subst ho
              obtain rfl := Option.some.inj hdt
              have i3 : act.eval (.tmp (3 : Nat)) = .pointer (some ⟨b1, 0, none⟩) := hfr 3 (by decide)
              obtain ⟨d0, d1, d2, _, _, _, _⟩ := kr.later ((b34.trans B46).trans hu)
              exact plain_wp (by intro c h; cases h) (fun _ _ => trivial) (by simp only [execOp, i3, evalC, evalF, evalG]; simp [go_sem, d0, d1, d2]) ⟨_, rfl, rfl, Bl.refl _⟩
            · simp only [List.getElem?_toArray, List.getElem?_cons_zero, List.getElem?_cons_succ, Option.some.injEq] at ho
              subst ho
              obtain rfl := Option.some.inj hdt
              have i4 : act.eval (.tmp (4 : Nat)) = .pointer (some ⟨b2, 0, none⟩) := hfr 4 (by decide)
              obtain ⟨d0, d1, d2, _, _, _, _⟩ := kz.later ((b34.trans B46).trans hu)
              exact plain_wp (by intro c h; cases h) (fun _ _ => trivial) (by simp only [execOp, i4, evalC, evalF, evalG]; simp [go_sem, d0, d1, d2]) ⟨_, rfl, rfl, Bl.refl _⟩
          case call =>
            intro o act u ho hsz hu hfr hin
            obtain ⟨c0, c1, c2, c3, c4, c5, c6, c7⟩ := HC.out _ ((b4.trans B46).trans hu)
            simp only [List.getElem?_toArray, List.getElem?_cons_zero, List.getElem?_cons_succ, Option.some.injEq, Nat.reduceAdd] at ho
            subst ho
            have i62 : ∃ q c p' c', (act.eval (.tmp (62 : Nat))) = sJ q m c m m p' N c' ∧ Rw 3 cellsF u (.slice q m c) (linJ m (fun i => wholeF (X.getD i 0))) ∧ Mx 3 cellsF u m m p' N c' (squareJ kdF m (fun i k => wholeF (ofL m Ro i k))) := hin ⟨1, .data⟩ (by simp) rfl 62 rfl
            have i63 : (act.eval (.tmp (63 : Nat))) = .slice hq m hc := hin ⟨2, .data⟩ (by simp) rfl 63 rfl
            have i64 : (act.eval (.tmp (64 : Nat))) = frV Rr := hin ⟨3, .data⟩ (by simp) rfl 64 rfl
            have i65 : (act.eval (.tmp (65 : Nat))) = frV Zz := hin ⟨4, .data⟩ (by simp) rfl 65 rfl
            obtain ⟨q0, cc0, p0, d0, e0, hR, hM⟩ := i62
            refine enter_wp 10 #[sJ q0 m cc0 m m p0 N d0, .slice hq m hc, frV Rr, frV Zz] (by intro c h; cases h) (fun _ _ => trivial) (by simp only [execOp, evalC, evalF, evalG, resolve, e0, i63, i64, i65, List.map_toArray, List.map_cons, List.map_nil]; simp [invoke, egU, Result.andThen, go_sem]) (by intro h; cases h) (callsIn_wide.2 (jUpdateF m N q0 cc0 (fun i => wholeF (X.getD i 0)) p0 d0 (squareJ kdF m (fun i k => wholeF (ofL m Ro i k))) hq hc (fun i => wholeF (Fm.getD i 0)) Rr Zz u hR.q hM (HG4.out.later (B46.trans hu)).q hm4)) ?_
            rintro e w' ⟨q, c, p', c', rfl, ⟨hR, hM, hF1, hF2⟩, hb⟩
            exact ⟨_, rfl, (q, c, p', c'), rfl, ⟨hR, hM⟩, hb, fun b hb' _ => ⟨fun g hg => by have := hF1 g hg; omega, fun g hg => by have := hF2 g hg; omega⟩⟩
          case mv =>
            intro o act u x ho hx
            simp only [List.getElem?_toArray, List.getElem?_cons_zero, List.getElem?_cons_succ, Option.some.injEq, Nat.reduceAdd] at ho
            subst ho
            exact plain_wp (by intro c h; cases h) (fun _ _ => trivial) (by simp only [execOp, hx]; simp [go_sem]) ⟨rfl, rfl⟩
          case x0 =>
            intro o act u x y z ho hx
            simp only [List.getElem?_toArray, List.getElem?_cons_zero, List.getElem?_cons_succ, Option.some.injEq, Nat.reduceAdd] at ho
            subst ho
            exact plain_wp (by intro c h; cases h) (fun _ _ => trivial) (by simp only [execOp, hx]; simp [go_sem]) ⟨rfl, rfl⟩
          case x1 =>
            intro o act u x y z ho hx
            simp only [List.getElem?_toArray, List.getElem?_cons_zero, List.getElem?_cons_succ, Option.some.injEq, Nat.reduceAdd] at ho
            subst ho
            exact plain_wp (by intro c h; cases h) (fun _ _ => trivial) (by simp only [execOp, hx]; simp [go_sem]) ⟨rfl, rfl⟩
          case x2 =>
            intro o act u x y z ho hx
            simp only [List.getElem?_toArray, List.getElem?_cons_zero, List.getElem?_cons_succ, Option.some.injEq, Nat.reduceAdd] at ho
            subst ho
            exact plain_wp (by intro c h; cases h) (fun _ _ => trivial) (by simp only [execOp, hx]; simp [go_sem]) ⟨rfl, rfl⟩
          case la =>
            intro o act u ho
            simp only [List.getElem?_toArray, List.getElem?_cons_zero, List.getElem?_cons_succ, Option.some.injEq, Nat.reduceAdd] at ho
            subst ho
            exact plain_wp (by intro c h; cases h) (fun _ _ => trivial) (w' := u.alloc (.cells #[.slice none 0 0, .int .i64 0, .int .i64 0, .slice none 0 0] 31)) (v := .pointer (some ⟨u.heap.size, 0, none⟩)) (by simp only [execOp]; simp [go_sem]) ⟨rfl, SBox.new u _ _ _ _ _ _ _ _ _, (Bl.refl _).alloc _, by simp⟩
          case lb =>
            intro o act u ho
            simp only [List.getElem?_toArray, List.getElem?_cons_zero, List.getElem?_cons_succ, Option.some.injEq, Nat.reduceAdd] at ho
            subst ho
            exact plain_wp (by intro c h; cases h) (fun _ _ => trivial) (w' := u.alloc (.cells #[.int .i64 0, .int .i64 0, .bool false, .int .i64 0, .int .i64 0, .bool false] 37)) (v := .pointer (some ⟨u.heap.size, 0, none⟩)) (by simp only [execOp]; simp [go_sem]) ⟨rfl, NBoxF.new u zeroR zeroR _, (Bl.refl _).alloc _, by simp⟩
          case sa =>
            intro o act u D b ho hA h0 hz hdat hoff hbl hb
            simp only [List.getElem?_toArray, List.getElem?_cons_zero, List.getElem?_cons_succ, Option.some.injEq, Nat.reduceAdd] at ho
            subst ho
            obtain ⟨q0, c0, p0, c1⟩ := D
            replace h0 : act.eval (.tmp 67) = sJ q0 (m) c0 (m) (m) p0 (N) c1 := h0
            obtain ⟨d0, d1, d2, d3, g0, g1, g2, g3, lt⟩ := (show SBox u b none 0 0 0 0 none 0 0 from hz)
            exact skip_wp (by intro c h; cases h) (fun _ _ => trivial) (by simp only [execOp, hA, h0]; simp [go_sem, d0, d1, d2, d3, g0, g1, g2, g3]) ⟨rfl, SBox.fill (show SBox u b none 0 0 0 0 none 0 0 from hz) _ _ _ _ _ _ _ _, ⟨hdat.1.but (but4F _ _ _ _ _ _) (fun g hg => hoff.1 g hg), hdat.2.but (but4F _ _ _ _ _ _) (fun g hg => hoff.2 g hg)⟩, Bl.put4 hbl hb _ _ _ _, fun b' h' => heap4F _ h' _ _ _ _, by simp⟩
          case sb =>
            intro o act u D b ho hA h0 hz hdat hoff hbl hb
            simp only [List.getElem?_toArray, List.getElem?_cons_zero, List.getElem?_cons_succ, Option.some.injEq, Nat.reduceAdd] at ho
            subst ho
            obtain ⟨q0, c0, p0, c1⟩ := D
            replace h0 : act.eval (.tmp 68) = newsVF (surpJ kdF m (fun i => wholeF (X.getD i 0)) (fun i => wholeF (Fm.getD i 0)) Zz) (spreadJ kdF m (squareJ kdF m (fun i k => wholeF (ofL m Ro i k))) (fun i => wholeF (Fm.getD i 0)) Rr) := h0
            obtain ⟨d0, d1, d2, d3, d4, d5, g0, g1, g2, g3, g4, g5, lt⟩ := (show NBoxF u b zeroR zeroR from hz)
            exact skip_wp (by intro c h; cases h) (fun _ _ => trivial) (by simp only [execOp, hA, h0]; simp [go_sem, d0, d1, d2, d3, d4, d5, g0, g1, g2, g3, g4, g5]) ⟨rfl, NBoxF.fill (show NBoxF u b zeroR zeroR from hz) _ _, ⟨hdat.1.but (butNF _ _ _ _) (fun g hg => hoff.1 g hg), hdat.2.but (butNF _ _ _ _) (fun g hg => hoff.2 g hg)⟩, blNF b hbl hb _ _, fun b' h' => heapNF _ h' _ _, by simp⟩
          case asg =>
            intro o act u x ho hx
            simp only [List.getElem?_toArray, List.getElem?_cons_zero, List.getElem?_cons_succ, Option.some.injEq, Nat.reduceAdd] at ho
            subst ho
            exact plain_wp (by intro c h; cases h) (fun _ _ => trivial) (by simp only [execOp, hx]; simp [go_sem]) ⟨rfl, rfl⟩
          case fin =>
            intro vs u D b7 n7 hu e9' e5' e6' hb1 hb2 hsa hsb hdat
            simp only [putL, Act.put, List.setIfInBounds_toArray, List.set_cons_zero, List.set_cons_succ, Nat.zero_add, Nat.reduceAdd] at e9' e5' e6' ⊢
            replace e9' := Eq.trans e9' (show _ = Value.bool true from rfl)
            simp only [e9', e5', e6']
            obtain ⟨q7, cq7, p7, c7'⟩ := D
            obtain ⟨w7, rfl⟩ : ∃ w7, w7 = u := ⟨_, rfl⟩
            have k7 : SBox w7 b7 q7 m cq7 m m p7 N c7' := hsa
            have HD7 : Rw 3 cellsF w7 (.slice q7 m cq7) (linJ m (upXJ kdF m (fun i => wholeF (X.getD i 0)) (squareJ kdF m (fun i k => wholeF (ofL m Ro i k))) (fun i => wholeF (Fm.getD i 0)) Rr Zz)) ∧ Mx 3 cellsF w7 m m p7 N c7' (upPJ kdF (fun i j => wholeF (unitI i j)) m (squareJ kdF m (fun i k => wholeF (ofL m Ro i k))) (fun i => wholeF (Fm.getD i 0)) Rr) := hdat
            have HR7 := hideP HD7.1
            have HM7 := hideP HD7.2
            have B67 : Bl W6 w7 := hu
            clear hsa hsb hdat HD7
            obtain ⟨E8, hE8⟩ : ∃ e : Fr, e = surpJ kdF m (upXJ kdF m (fun i => wholeF (X.getD i 0)) (squareJ kdF m (fun i k => wholeF (ofL m Ro i k))) (fun i => wholeF (Fm.getD i 0)) Rr Zz) (fun i => wholeF (H.getD i 0)) Zz := ⟨_, rfl⟩
            obtain ⟨A8, hA8⟩ : ∃ e : Fr, e = spreadJ kdF m (upPJ kdF (fun i j => wholeF (unitI i j)) m (squareJ kdF m (fun i k => wholeF (ofL m Ro i k))) (fun i => wholeF (Fm.getD i 0)) Rr) (fun i => wholeF (H.getD i 0)) Rr := ⟨_, rfl⟩
            have UPD := hideP (by have := jUpdateF m N q7 cq7 (upXJ kdF m (fun i => wholeF (X.getD i 0)) (squareJ kdF m (fun i k => wholeF (ofL m Ro i k))) (fun i => wholeF (Fm.getD i 0)) Rr Zz) p7 c7' (upPJ kdF (fun i j => wholeF (unitI i j)) m (squareJ kdF m (fun i k => wholeF (ofL m Ro i k))) (fun i => wholeF (Fm.getD i 0)) Rr) gq gc (fun i => wholeF (H.getD i 0)) Rr Zz w7 HR7.out.q HM7.out (HH4.out.later (B46.trans B67)).q hm4; rw [← hE8, ← hA8] at this; exact this)
            clear hE8 hA8
            obtain ⟨s0, s1, s2, s3, _, _, _, _, _⟩ := id k7
            obtain ⟨r0, r1, r2, _, _, _, _⟩ := kr.later (b34.trans (B46.trans B67))
            obtain ⟨z0, z1, z2, _, _, _, _⟩ := kz.later (b34.trans (B46.trans B67))
            go_wp2_with fail
            refine UPD.out.mono ?_
            rintro e w8 ⟨q8, cq8, p8, c8, rfl, ⟨hR, hM, _, _⟩, h8⟩
            clear s0 s1 s2 s3 r0 r1 r2 z0 z1 z2 UPD
            obtain ⟨W8, hW8⟩ : ∃ W8, W8 = (w8.alloc (.cells #[.slice q8 m cq8, .int .i64 m, .int .i64 m, .slice p8 N c8] 31)).alloc (.cells #[.int .i64 E8.n, .int .i64 E8.d, .bool E8.bad, .int .i64 A8.n, .int .i64 A8.d, .bool A8.bad] 37) := ⟨_, rfl⟩
            have b8 : Bl w8 W8 := by rw [hW8]; exact ((Bl.refl _).alloc _).alloc _
            have k8 : SBox W8 w8.heap.size q8 m cq8 m m p8 N c8 := by rw [hW8]; exact (SBox.new w8 _ _ _ _ _ _ _ _ _).later ((Bl.refl _).alloc _)
            have HR8 := hideP (hR.later b8)
            have HM8 := hideP (Mx.later hM b8)
            have B8 : Bl w7 W8 := h8.trans b8
            have HW8 := hideP hW8
            have B68 : Bl W6 W8 := B67.trans B8
            obtain ⟨x0, x1, x2, x3, _, _, _, _, _⟩ := k6.later B68
            obtain ⟨y0, y1, y2, y3, _, _, _, _, _⟩ := id k8
            rw [hW8] at x0 x1 x2 x3 y0 y1 y2 y3
            clear hW8 hR hM
            go_wp2_with fail
            rw [← HW8.out]
            clear x0 x1 x2 x3 y0 y1 y2 y3
            obtain ⟨g6, z6, hp6, _, hg6, C6⟩ := (HM6.out.later B68).cells
            obtain ⟨g8, z8, hp8, _, hg8, C8⟩ := HM8.out.cells
            have HP6 := hideP hp6
            have HP8 := hideP hp8
            have HC6 := hideP C6
            have HC8 := hideP C8
            clear hp6 hp8 C6 C8
            go_loopw [100] (fun v wr => ∃ tt : Nat, v = .int .i64 tt ∧ tt ≤ N ∧ Bl W8 wr) (fun v _ => N - (intOf v).toNat)
            case atStart => exact ⟨0, rfl, Nat.zero_le _, Bl.refl _⟩
            case round =>
              obtain ⟨tt, rfl, ht, bl⟩ := hrel
              by_cases hlt2 : tt < N
              · obtain ⟨a, b, ha, hb, hab⟩ : ∃ a b, a < m ∧ b < m ∧ tt = a * m + b := idx9t (by rw [← HNN.out]; exact hlt2)
                obtain ⟨x, hx⟩ : ∃ x, x = (upPJ kdF (fun i j => wholeF (unitI i j)) m (upPJ kdF (fun i j => wholeF (unitI i j)) m (squareJ kdF m (fun i k => wholeF (ofL m Ro i k))) (fun i => wholeF (H.getD i 0)) Rr) (fun i => wholeF (Fm.getD i 0)) Rr) a b := ⟨_, rfl⟩
                obtain ⟨y, hy⟩ : ∃ y, y = (upPJ kdF (fun i j => wholeF (unitI i j)) m (upPJ kdF (fun i j => wholeF (unitI i j)) m (squareJ kdF m (fun i k => wholeF (ofL m Ro i k))) (fun i => wholeF (Fm.getD i 0)) Rr) (fun i => wholeF (H.getD i 0)) Rr) a b := ⟨_, rfl⟩
                have KEY : x.bad = true ∨ y.bad = true ∨ x = y := by rw [hx, hy]; exact two_key9 ha hb (fun i k _ _ => by rw [sq_sym9])
                have CX := fun (u : World) (hu : Bl W8 u) q v hv => (bl_cell hu _ _ hg6).trans (HC6.out a b ha hb q v hv)
                have CY := fun (u : World) (hu : Bl W8 u) q v hv => (bl_cell hu _ _ hg8).trans (HC8.out a b ha hb q v hv)
                rw [← hab, ← hx] at CX
                rw [← hab, ← hy] at CY
                clear hx hy hab ha hb
                go_wp2_with fail
                refine (wpIn_wide (n := 8)).1 (region_t (za := (fun u b => FBox u b (zeroR))) (va := (fun u b => FBox u b (x))) (zb := (fun u b => FBox u b (zeroR))) (vb := (fun u b => FBox u b (y))) (on_FBox _) (on_FBox _) (on_FBox _) (on_FBox _) fm [some 103, some 104, some 105, some 106, some 107, some 108, some 109, some 110, some 111, some 112, some 113, some 114, some 20, some 21, none, none] 12 14 13 15 20 21 (by kernel_rfl) (by rfl) rfl rfl
                  (fun j v => match j with | 0 => v = .pointer (some ⟨w6.heap.size, 1, none⟩) | 1 => v = .pointer (some ⟨w6.heap.size, 3, none⟩) | 2 => v = .slice (some ⟨g6, z6, none⟩) N c6 | 3 => v = .int .i64 tt | 4 => v = .pointer (some ⟨g6, z6 + tt * 3, none⟩) | 5 => v = frV x | 6 => v = .pointer (some ⟨w8.heap.size, 1, none⟩) | 7 => v = .pointer (some ⟨w8.heap.size, 3, none⟩) | 8 => v = .slice (some ⟨g8, z8, none⟩) N c8 | 9 => v = .int .i64 tt | 10 => v = .pointer (some ⟨g8, z8 + tt * 3, none⟩) | 11 => v = frV y | _ => False) ?step ?la ?lb ?sa ?sb ?fin)
                case step =>
                  intro j o t act u hA hB ho hdt hsz hu hfr hin
                  have hj : j < 16 := (Array.getElem?_eq_some_iff.1 ho).1
                  obtain ⟨d0, d1, d2, d3, _, _, _, _, _⟩ := (k6.later (B68.trans bl)).later hu
                  obtain ⟨e0, e1, e2, e3, _, _, _, _, _⟩ := (k8.later bl).later hu
                  rw [HP6.out] at d3
                  rw [HP8.out] at e3
                  have x0 : u.cell? ⟨g6, z6 + tt * 3, none⟩ = some (.int .i64 x.n) := by simpa using CX u (bl.trans hu) 0 _ rfl
                  have x1 : u.cell? ⟨g6, z6 + tt * 3 + 1, none⟩ = some (.int .i64 x.d) := by simpa using CX u (bl.trans hu) 1 _ rfl
                  have x2 : u.cell? ⟨g6, z6 + tt * 3 + 2, none⟩ = some (.bool x.bad) := by simpa using CX u (bl.trans hu) 2 _ rfl
                  have y0 : u.cell? ⟨g8, z8 + tt * 3, none⟩ = some (.int .i64 y.n) := by simpa using CY u (bl.trans hu) 0 _ rfl
                  have y1 : u.cell? ⟨g8, z8 + tt * 3 + 1, none⟩ = some (.int .i64 y.d) := by simpa using CY u (bl.trans hu) 1 _ rfl
                  have y2 : u.cell? ⟨g8, z8 + tt * 3 + 2, none⟩ = some (.bool y.bad) := by simpa using CY u (bl.trans hu) 2 _ rfl
                  rcases (by omega : j = 0 ∨ j = 1 ∨ j = 2 ∨ j = 3 ∨ j = 4 ∨ j = 5 ∨ j = 6 ∨ j = 7 ∨ j = 8 ∨ j = 9 ∨ j = 10 ∨ j = 11 ∨ j = 12 ∨ j = 13 ∨ j = 14 ∨ j = 15) with rfl | rfl | rfl | rfl | rfl | rfl | rfl | rfl | rfl | rfl | rfl | rfl | rfl | rfl | rfl | rfl
                  · simp only [List.getElem?_toArray, List.getElem?_cons_zero, List.getElem?_cons_succ, Option.some.injEq] at ho
                    subst ho
                    obtain rfl := Option.some.inj hdt
                    have i10 : act.eval (.tmp (10 : Nat)) = .pointer (some ⟨w6.heap.size, 0, none⟩) := hfr 10 (by decide)
                    exact plain_wp (by intro c h; cases h) (fun _ _ => trivial) (by simp only [execOp, i10, evalC, evalF, evalG]; simp [go_sem, d0]) ⟨_, rfl, rfl, Bl.refl _⟩
                  · simp only [List.getElem?_toArray, List.getElem?_cons_zero, List.getElem?_cons_succ, Option.some.injEq] at ho
                    subst ho
                    obtain rfl := Option.some.inj hdt
                    have i103 : (act.eval (.tmp (103 : Nat))) = .pointer (some ⟨w6.heap.size, 1, none⟩) := hin ⟨0, .data⟩ (by simp) rfl (by decide) (by decide) 103 rfl
                    exact plain_wp (by intro c h; cases h) (fun _ _ => trivial) (by simp only [execOp, i103, evalC, evalF, evalG]; simp [go_sem, d0]) ⟨_, rfl, rfl, Bl.refl _⟩
                  · simp only [List.getElem?_toArray, List.getElem?_cons_zero, List.getElem?_cons_succ, Option.some.injEq] at ho
                    subst ho
                    obtain rfl := Option.some.inj hdt
                    have i104 : (act.eval (.tmp (104 : Nat))) = .pointer (some ⟨w6.heap.size, 3, none⟩) := hin ⟨1, .data⟩ (by simp) rfl (by decide) (by decide) 104 rfl
                    exact plain_wp (by intro c h; cases h) (fun _ _ => trivial) (by simp only [execOp, i104, evalC, evalF, evalG]; simp [go_sem, d3]) ⟨_, rfl, rfl, Bl.refl _⟩
                  · simp only [List.getElem?_toArray, List.getElem?_cons_zero, List.getElem?_cons_succ, Option.some.injEq] at ho
                    subst ho
                    obtain rfl := Option.some.inj hdt
                    have i19 : act.eval (.tmp (19 : Nat)) = .int .i64 tt := hfr 19 (by decide)
                    exact plain_wp (by intro c h; cases h) (fun _ _ => trivial) (by simp only [execOp, i19, evalC, evalF, evalG]; simp [go_sem, d3]) ⟨_, rfl, rfl, Bl.refl _⟩
                  · simp only [List.getElem?_toArray, List.getElem?_cons_zero, List.getElem?_cons_succ, Option.some.injEq] at ho
                    subst ho
                    obtain rfl := Option.some.inj hdt
                    have i105 : (act.eval (.tmp (105 : Nat))) = .slice (some ⟨g6, z6, none⟩) N c6 := hin ⟨2, .data⟩ (by simp) rfl (by decide) (by decide) 105 rfl
                    have i106 : (act.eval (.tmp (106 : Nat))) = .int .i64 tt := hin ⟨3, .data⟩ (by simp) rfl (by decide) (by decide) 106 rfl
                    exact plain_wp (by intro c h; cases h) (fun _ _ => trivial) (by simp only [execOp, i105, i106, evalC, evalF, evalG]; simp [go_sem, hlt2, x0, x1, x2]) ⟨_, rfl, rfl, Bl.refl _⟩
                  · simp only [List.getElem?_toArray, List.getElem?_cons_zero, List.getElem?_cons_succ, Option.some.injEq] at ho
                    subst ho
                    obtain rfl := Option.some.inj hdt
                    have i107 : (act.eval (.tmp (107 : Nat))) = .pointer (some ⟨g6, z6 + tt * 3, none⟩) := hin ⟨4, .data⟩ (by simp) rfl (by decide) (by decide) 107 rfl
                    exact plain_wp (by intro c h; cases h) (fun _ _ => trivial) (by simp only [execOp, i107, evalC, evalF, evalG]; simp [go_sem, x0, x1, x2]) ⟨_, rfl, rfl, Bl.refl _⟩
                  · simp only [List.getElem?_toArray, List.getElem?_cons_zero, List.getElem?_cons_succ, Option.some.injEq] at ho
                    subst ho
                    obtain rfl := Option.some.inj hdt
                    have i16 : act.eval (.tmp (16 : Nat)) = .pointer (some ⟨w8.heap.size, 0, none⟩) := hfr 16 (by decide)
                    exact plain_wp (by intro c h; cases h) (fun _ _ => trivial) (by simp only [execOp, i16, evalC, evalF, evalG]; simp [go_sem, e0]) ⟨_, rfl, rfl, Bl.refl _⟩
                  · simp only [List.getElem?_toArray, List.getElem?_cons_zero, List.getElem?_cons_succ, Option.some.injEq] at ho
                    subst ho
                    obtain rfl := Option.some.inj hdt
                    have i109 : (act.eval (.tmp (109 : Nat))) = .pointer (some ⟨w8.heap.size, 1, none⟩) := hin ⟨6, .data⟩ (by simp) rfl (by decide) (by decide) 109 rfl
                    exact plain_wp (by intro c h; cases h) (fun _ _ => trivial) (by simp only [execOp, i109, evalC, evalF, evalG]; simp [go_sem, e0]) ⟨_, rfl, rfl, Bl.refl _⟩
                  · simp only [List.getElem?_toArray, List.getElem?_cons_zero, List.getElem?_cons_succ, Option.some.injEq] at ho
                    subst ho
                    obtain rfl := Option.some.inj hdt
                    have i110 : (act.eval (.tmp (110 : Nat))) = .pointer (some ⟨w8.heap.size, 3, none⟩) := hin ⟨7, .data⟩ (by simp) rfl (by decide) (by decide) 110 rfl
                    exact plain_wp (by intro c h; cases h) (fun _ _ => trivial) (by simp only [execOp, i110, evalC, evalF, evalG]; simp [go_sem, e3]) ⟨_, rfl, rfl, Bl.refl _⟩
                  · simp only [List.getElem?_toArray, List.getElem?_cons_zero, List.getElem?_cons_succ, Option.some.injEq] at ho
                    subst ho
                    obtain rfl := Option.some.inj hdt
                    have i19 : act.eval (.tmp (19 : Nat)) = .int .i64 tt := hfr 19 (by decide)
                    exact plain_wp (by intro c h; cases h) (fun _ _ => trivial) (by simp only [execOp, i19, evalC, evalF, evalG]; simp [go_sem, e3]) ⟨_, rfl, rfl, Bl.refl _⟩
                  · simp only [List.getElem?_toArray, List.getElem?_cons_zero, List.getElem?_cons_succ, Option.some.injEq] at ho
                    subst ho
                    obtain rfl := Option.some.inj hdt
                    have i111 : (act.eval (.tmp (111 : Nat))) = .slice (some ⟨g8, z8, none⟩) N c8 := hin ⟨8, .data⟩ (by simp) rfl (by decide) (by decide) 111 rfl
                    have i112 : (act.eval (.tmp (112 : Nat))) = .int .i64 tt := hin ⟨9, .data⟩ (by simp) rfl (by decide) (by decide) 112 rfl
                    exact plain_wp (by intro c h; cases h) (fun _ _ => trivial) (by simp only [execOp, i111, i112, evalC, evalF, evalG]; simp [go_sem, hlt2, y0, y1, y2]) ⟨_, rfl, rfl, Bl.refl _⟩
                  · simp only [List.getElem?_toArray, List.getElem?_cons_zero, List.getElem?_cons_succ, Option.some.injEq] at ho
                    subst ho
                    obtain rfl := Option.some.inj hdt
                    have i113 : (act.eval (.tmp (113 : Nat))) = .pointer (some ⟨g8, z8 + tt * 3, none⟩) := hin ⟨10, .data⟩ (by simp) rfl (by decide) (by decide) 113 rfl
                    exact plain_wp (by intro c h; cases h) (fun _ _ => trivial) (by simp only [execOp, i113, evalC, evalF, evalG]; simp [go_sem, y0, y1, y2]) ⟨_, rfl, rfl, Bl.refl _⟩
                  · exact absurd rfl hA
                  · exact absurd rfl hB
                  · simp only [List.getElem?_toArray, List.getElem?_cons_zero, List.getElem?_cons_succ, Option.some.injEq] at ho
                    subst ho
                    cases hdt
                  · simp only [List.getElem?_toArray, List.getElem?_cons_zero, List.getElem?_cons_succ, Option.some.injEq] at ho
                    subst ho
                    cases hdt
                case la =>
                  intro o act u ho
                  simp only [List.getElem?_toArray, List.getElem?_cons_zero, List.getElem?_cons_succ, Option.some.injEq, Nat.reduceAdd] at ho
                  subst ho
                  exact plain_wp (by intro c h; cases h) (fun _ _ => trivial) (w' := u.alloc (.cells #[.int .i64 0, .int .i64 0, .bool false] 35)) (v := .pointer (some ⟨u.heap.size, 0, none⟩)) (by simp only [execOp]; simp [go_sem]) ⟨rfl, FBox.new u zeroR _, (Bl.refl _).alloc _, by simp⟩
                case lb =>
                  intro o act u ho
                  simp only [List.getElem?_toArray, List.getElem?_cons_zero, List.getElem?_cons_succ, Option.some.injEq, Nat.reduceAdd] at ho
                  subst ho
                  exact plain_wp (by intro c h; cases h) (fun _ _ => trivial) (w' := u.alloc (.cells #[.int .i64 0, .int .i64 0, .bool false] 35)) (v := .pointer (some ⟨u.heap.size, 0, none⟩)) (by simp only [execOp]; simp [go_sem]) ⟨rfl, FBox.new u zeroR _, (Bl.refl _).alloc _, by simp⟩
                case sa =>
                  intro o act u b ho hA hz hbl hb hfr hin
                  simp only [List.getElem?_toArray, List.getElem?_cons_zero, List.getElem?_cons_succ, Option.some.injEq, Nat.reduceAdd] at ho
                  subst ho
                  have i108 : (act.eval (.tmp (108 : Nat))) = frV x := hin ⟨5, .data⟩ (by simp) rfl (by decide) (by decide) 108 rfl
                  obtain ⟨d0, d1, d2, g0, g1, g2, lt⟩ := (show FBox u b zeroR from hz)
                  exact skip_wp (by intro c h; cases h) (fun _ _ => trivial) (by simp only [execOp, hA, i108]; simp [go_sem, d0, d1, d2, g0, g1, g2]) ⟨rfl, FBox.fill (show FBox u b zeroR from hz) _, Bl.set3 hbl hb _ _ _, fun b' h' => heap3F _ h' _ _ _, by simp⟩
                case sb =>
                  intro o act u b ho hA hz hbl hb hfr hin
                  simp only [List.getElem?_toArray, List.getElem?_cons_zero, List.getElem?_cons_succ, Option.some.injEq, Nat.reduceAdd] at ho
                  subst ho
                  have i114 : (act.eval (.tmp (114 : Nat))) = frV y := hin ⟨11, .data⟩ (by simp) rfl (by decide) (by decide) 114 rfl
                  obtain ⟨d0, d1, d2, g0, g1, g2, lt⟩ := (show FBox u b zeroR from hz)
                  exact skip_wp (by intro c h; cases h) (fun _ _ => trivial) (by simp only [execOp, hA, i114]; simp [go_sem, d0, d1, d2, g0, g1, g2]) ⟨rfl, FBox.fill (show FBox u b zeroR from hz) _, Bl.set3 hbl hb _ _ _, fun b' h' => heap3F _ h' _ _ _, by simp⟩
                case fin =>
                  intro vs u b1 b2 hu eA eB hb1 hb2 lt1 lt2 hne hsa hsb hin
                  have a0 := hin 0 103 (by decide) (by decide) rfl
                  have a1 := hin 1 104 (by decide) (by decide) rfl
                  have a2 := hin 2 105 (by decide) (by decide) rfl
                  have a3 := hin 3 106 (by decide) (by decide) rfl
                  have a4 := hin 4 107 (by decide) (by decide) rfl
                  have a5 := hin 5 108 (by decide) (by decide) rfl
                  have a6 := hin 6 109 (by decide) (by decide) rfl
                  have a7 := hin 7 110 (by decide) (by decide) rfl
                  have a8 := hin 8 111 (by decide) (by decide) rfl
                  have a9 := hin 9 112 (by decide) (by decide) rfl
                  have a10 := hin 10 113 (by decide) (by decide) rfl
                  have a11 := hin 11 114 (by decide) (by decide) rfl
                  simp only [putL, Act.put, List.setIfInBounds_toArray, List.set_cons_zero, List.set_cons_succ, Nat.zero_add, Nat.reduceAdd] at a0 a1 a2 a3 a4 a5 a6 a7 a8 a9 a10 a11 ⊢
                  simp only [eA, eB, a0, a1, a2, a3, a4, a5, a6, a7, a8, a9, a10, a11]
                  have kx : FBox u b1 x := hsa
                  have ky : FBox u b2 y := hsb
                  obtain ⟨wu, rfl⟩ : ∃ wu, wu = u := ⟨_, rfl⟩
                  clear hin hsa hsb a0 a1 a2 a3 a4 a5 a6 a7 a8 a9 a10 a11 CX CY
                  obtain ⟨x0, x1, x2, _, _, _, _⟩ := kx
                  obtain ⟨y0, y1, y2, _, _, _, _⟩ := ky
                  have sx := eql_selfV x
                  obtain ⟨xn, xd, xb⟩ := x
                  obtain ⟨yn, yd, yb⟩ := y
                  dsimp only at x0 x1 x2 y0 y1 y2 KEY
                  rcases KEY with rfl | rfl | hxy
                  · clear sx
                    go_wp2
                    go_roundw
                    case rel => exact ⟨tt + 1, by simp, hlt2, bl.trans hu⟩
                    case measure => simp [intOf]; omega
                  · clear sx
                    cases xb <;> (
                      go_wp2
                      go_roundw
                      case rel => exact ⟨tt + 1, by simp, hlt2, bl.trans hu⟩
                      case measure => simp [intOf]; omega)
                  · cases hxy
                    cases xb <;> (
                      go_wp2
                      go_roundw
                      case rel => exact ⟨tt + 1, by simp, hlt2, bl.trans hu⟩
                      case measure => simp [intOf]; omega)
              · obtain rfl : tt = N := by omega
                go_wp2_with fail
                refine (AW.out _).mono ?_
                rintro e w99 ⟨rfl, h99⟩
                go_wp2
                go_ret
                exact ⟨rfl, (B4.trans (B46.trans (B67.trans (B8.trans bl)))).trans h99⟩
end Go.Proofs.Ythnadgbloamlaaa

/- A slice of whole numbers as an argument: opened. -/
namespace Go.Proofs.Ythnadgbloamlaaa
open Go.ChangeShapes Go.WideShapes Go.ChangeAt Go.RowKit
set_option linter.unusedVariables false

theorem Try.cellsInt : Try.prog.cellsOf 3 = 1 := by kernel_rfl
theorem cell_block_lt {W : World} {b o : Nat} {v : Value} (h : W.cell? ⟨b, o, none⟩ = some v) : b < W.heap.size := by
  rcases Nat.lt_or_ge b W.heap.size with h' | h'
  · exact h'
  · have : W.heap[b]? = none := Array.getElem?_eq_none h'
    simp [World.cell?, this] at h
set_option maxRecDepth 1000000 in
theorem open_row {H : Type} {enc : TypeId × Value → H} {W : World} {b0 : Nat} {v : Value} {d : DataW H} {p : List MemPlace}
    (hv : Value.okWide Try.prog W .any b0 22 v) (h : DataW.Trod enc Try.prog W 0 (fun _ => true) true 22 v d p) : ∃ ns : List Int, Rq 1 cI W v ns ∧ ∀ n ∈ ns, (Lit.int .i64 n).wf = true := by
  obtain ⟨a0, len, cap, rfl⟩ := okWide_slice Try.underlying22 hv
  obtain ⟨fuel, hf⟩ := h
  rcases open_ints Try.underlying22 Try.underlying3 Try.cellsInt hf with ⟨hcs, hx⟩ | ⟨a, len', cap', zs, hcs, _, hl, hm, hz, hx, hcell, hwz⟩
  · simp [Value.cells] at hcs
    obtain ⟨rfl, rfl, rfl⟩ := hcs
    exact ⟨[], .inl ⟨none, 0, rfl, rfl, fun _ => rfl⟩, fun n hn => by simp at hn⟩
  · simp [Value.cells] at hcs
    obtain ⟨rfl, rfl, rfl⟩ := hcs
    simp only [if_true] at hz
    refine ⟨zs.take len, ?_, fun n hn => hwz n (List.mem_of_mem_take hn)⟩
    by_cases h0 : len = 0
    · subst h0
      exact .inl ⟨some a, cap, rfl, by simp, nofun⟩
    · have c0 := hcell 0 (by omega)
      obtain ⟨b, off, rfl, hc⟩ := ints_at hcell (by omega)
      have hb : b < W.heap.size := by
        have := hc 0 (by omega)
        exact cell_block_lt this
      have hll : (zs.take len).length = len := by simp; omega
      refine .inr ⟨b, off, cap, by rw [hll], by omega, hb, fun j x hj k u hu => ?_⟩
      rcases k with _ | k
      · simp at hu
        subst hu
        have hj2 := (List.getElem?_eq_some_iff.1 hj).1
        have := hc j (by omega)
        rw [List.getElem?_take] at hj
        split at hj
        · have e : zs.getD j 0 = x := by simp [List.getD, hj]
          rw [e] at this
          simpa using this
        · cases hj
      · simp at hu
end Go.Proofs.Ythnadgbloamlaaa

/- A case of layer 9's laws as an argument: opened. -/
namespace Go.Proofs.Ythnadgbloamlaaa
open Go.ChangeShapes Go.WideShapes Go.ChangeAt Go.RowKit Go.Joins
set_option linter.unusedVariables false

/-- A case as a value. -/
abbrev caseV (n : Int) (x root f g h : Value) (r z : Int) : Value := .agg #[.int .i64 n, x, root, f, g, h, .int .i64 r, .int .i64 z]
theorem array8 {α : Type} {cs : Array α} (h : cs.size = 8) : ∃ c0 c1 c2 c3 c4 c5 c6 c7, cs = #[c0, c1, c2, c3, c4, c5, c6, c7] := by
  obtain ⟨l⟩ := cs
  match l, h with
  | [c0, c1, c2, c3, c4, c5, c6, c7], _ => exact ⟨c0, c1, c2, c3, c4, c5, c6, c7, rfl⟩
theorem cellsCase : Try.prog.cellsOf 24 = 8 := by kernel_rfl
set_option maxRecDepth 1000000 in
theorem row_trod {H : Type} {enc : TypeId × Value → H} {W : World} {n : Nat} {v : Value} {y : DataW H × List MemPlace}
    (hf : DataW.trod enc Try.prog W 0 (fun _ => true) true n 22 [v] = some y) : ∃ ns : List Int, Rq 1 cI W v ns ∧ ∀ n ∈ ns, (Lit.int .i64 n).wf = true := by
  obtain ⟨d, p⟩ := y
  rcases open_ints Try.underlying22 Try.underlying3 Try.cellsInt hf with ⟨hcs, hx⟩ | ⟨a, len', cap', zs, hcs, _, hl, hm, hz, hx, hcell, hwz⟩
  · simp at hcs
    subst hcs
    exact ⟨[], .inl ⟨none, 0, rfl, rfl, fun _ => rfl⟩, fun n hn => by simp at hn⟩
  · simp at hcs
    subst hcs
    simp only [if_true] at hz
    refine ⟨zs.take len', ?_, fun n hn => hwz n (List.mem_of_mem_take hn)⟩
    by_cases h0 : len' = 0
    · subst h0
      exact .inl ⟨some a, cap', rfl, by simp, nofun⟩
    · have c0 := hcell 0 (by omega)
      obtain ⟨b, off, rfl, hc⟩ := ints_at hcell (by omega)
      have hb : b < W.heap.size := by
        have := hc 0 (by omega)
        exact cell_block_lt this
      have hll : (zs.take len').length = len' := by simp; omega
      refine .inr ⟨b, off, cap', by rw [hll], by omega, hb, fun j x hj k u hu => ?_⟩
      rcases k with _ | k
      · simp at hu
        subst hu
        have hj2 := (List.getElem?_eq_some_iff.1 hj).1
        have := hc j (by omega)
        rw [List.getElem?_take] at hj
        split at hj
        · have e : zs.getD j 0 = x := by simp [List.getD, hj]
          rw [e] at this
          simpa using this
        · cases hj
      · simp at hu
set_option maxRecDepth 1000000 in
theorem open_case {H : Type} {enc : TypeId × Value → H} {W : World} {b0 : Nat} {v : Value} {d : DataW H} {p : List MemPlace}
    (hv : Value.okWide Try.prog W .any b0 24 v) (h : DataW.Trod enc Try.prog W 0 (fun _ => true) true 24 v d p) :
    ∃ (n r z : Int) (x root f g h' : Value) (X Root F G H' : List Int), v = caseV n x root f g h' r z ∧ Rq 1 cI W x X ∧ Rq 1 cI W root Root ∧ Rq 1 cI W f F ∧ Rq 1 cI W g G ∧ Rq 1 cI W h' H' := by
  obtain ⟨cs, rfl, hsz⟩ := okWide_struct Try.underlying24 hv
  obtain ⟨c0, c1, c2, c3, c4, c5, c6, c7, rfl⟩ := array8 (hsz.trans cellsCase)
  obtain ⟨fuel, hf⟩ := h
  obtain ⟨xs, n, _, hxx, hl, hlen, hall⟩ := DataW.trod_struct Try.underlying24 hf
  match xs, hlen with
  | [y0, y1, y2, y3, y4, y5, y6, y7], _ =>
    have h0 := hall 0 _ rfl
    have h1 := hall 1 _ rfl
    have h2 := hall 2 _ rfl
    have h3 := hall 3 _ rfl
    have h4 := hall 4 _ rfl
    have h5 := hall 5 _ rfl
    have h6 := hall 6 _ rfl
    have h7 := hall 7 _ rfl
    simp only [Value.cells] at h0 h1 h2 h3 h4 h5 h6 h7
    simp at h0 h1 h2 h3 h4 h5 h6 h7
    have k1 : Try.prog.cellsOf 3 = 1 := by kernel_rfl
    have k2 : Try.prog.cellsOf 22 = 1 := by kernel_rfl
    rw [k1] at h0 h6 h7
    rw [k2] at h1 h2 h3 h4 h5
    simp only [List.take_succ_cons, List.take_zero] at h0 h1 h2 h3 h4 h5 h6 h7
    obtain ⟨n0, e0, _, _⟩ := DataW.trod_int Try.underlying3 h0
    obtain ⟨r0, e6, _, _⟩ := DataW.trod_int Try.underlying3 h6
    obtain ⟨z0, e7, _, _⟩ := DataW.trod_int Try.underlying3 h7
    obtain ⟨X, hX, _⟩ := row_trod h1
    obtain ⟨Root, hRoot, _⟩ := row_trod h2
    obtain ⟨F, hF, _⟩ := row_trod h3
    obtain ⟨G, hG, _⟩ := row_trod h4
    obtain ⟨H', hH, _⟩ := row_trod h5
    simp only [List.cons.injEq, and_true] at e0 e6 e7
    subst e0 e6 e7
    exact ⟨n0, r0, z0, c1, c2, c3, c4, c5, X, Root, F, G, H', rfl, hX, hRoot, hF, hG, hH⟩
end Go.Proofs.Ythnadgbloamlaaa

/- Two measurements tell, in fractions, the same P whichever comes first. Conditions: none (every input). -/
namespace Go.Proofs.Ythnadgbloamlaaa
open Go.ChangeShapes Go.WideShapes Go.ChangeAt Go.RowKit
set_option linter.unusedVariables false

theorem own_JosephTwo : ownKnob Try.prog.godebug = none := by kernel_rfl
theorem laid_JosephTwo : laidOutB Try.prog = true := by kernel_rfl
set_option maxRecDepth 100000 in
theorem lifted_JosephTwo (os : Os) (started : os.Started) (H : Type) (enc : TypeId × Value → H) :
    ReturnsInHanded {} Try.checked os 5 .any (Rows.josephTwoSpec.pre6 enc Try.prog Try.f5 Rows.josephTwoRow.domain false) (Rows.josephTwoSpec.post enc Try.prog Try.f5 false true false false) := by
  refine returnsInHanded_of_change (C := Try.checked) own_JosephTwo started (by kernel_rfl) Try.func5
    (ChangeSpec.witness6 (enc := enc) (C := Try.checked) false ⟨#[], #[.agg #[.int .i64 0, .slice none 0 0, .slice none 0 0, .slice none 0 0, .slice none 0 0, .slice none 0 0, .int .i64 0, .int .i64 0]], []⟩ 8 (by kernel_rfl) (by kernel_rfl) (by kernel_rfl) (by kernel_rfl)) ?_
  intro W base args ds gs before hval0 hW hcnd _
  have hval : ∀ (j : Nat) t v, Try.f5.params[j]? = some t → args[j]? = some v → Value.okWide Try.prog W .any base t v := hval0
  have hW' := hW
  obtain ⟨p, q, hA0, hV, rfl, hfz, hnd⟩ := hW
  have hA : DataW.TrodAll enc Try.prog W 0 (fun _ => true) true Try.f5.params.toList args.toList ds p := hA0
  rw [Try.params5] at hA hval
  obtain ⟨v0, vs0, d0, ds0, p0, q0, hargs, rfl, rfl, h0, r0⟩ := trodAll_cons hA
  obtain ⟨rfl, rfl, rfl⟩ := trodAll_nil r0
  obtain rfl : args = #[v0] := by cases args; simp_all
  obtain ⟨rfl, rfl⟩ := trodVars_none hV
  have hltA := fun x hx => hW'.lt x hx
  obtain ⟨n0, r0x, z0, x0, o0, f0, g0, k0, X0, O0, F0, G0, K0, e0, R0a, R0b, R0c, R0d, R0e⟩ := open_case (hval 0 24 v0 rfl rfl) h0
  subst e0
  clear hA0 hval0
  refine (walk_JosephTwo n0 r0x z0 x0 o0 f0 g0 k0 X0 O0 F0 G0 K0 W R0a R0b R0c R0d R0e).mono fun e W' ⟨he, bel⟩ => ?_
  subst he
  exact ⟨_, rfl, _, _, _, [], _, [], hW', trodAll_mk1 (shut_bool Try.underlying4 _), (trodAll_cons_mk (Below.trod laid_JosephTwo (by kernel_rfl) (of_decide_eq_true (by kernel_rfl)) h0 bel (fun x hx => by have := hltA x (by simp [hx]); simpa using this)) trodAll_mk0), rfl, Below.frame bel _, fun h => by cases h⟩

theorem proved_JosephTwo : Rows.JosephTwoSaid :=
  OpenClaim.holds_of_wide 5 Try.f5 rfl rfl rfl rfl rfl rfl rfl ⟨rfl, rfl, rfl, rfl, rfl⟩ rfl rfl rfl rfl rfl (by kernel_rfl) Try.func5 (by kernel_rfl)
    (of_decide_eq_true (by kernel_rfl)) (by unfold Func.isWrapper; first | (rw [if_pos (by decide +kernel)]; kernel_rfl) | (rw [if_neg (by decide +kernel)]; exact ⟨rfl, rfl⟩))
    (fun os started H enc _ => lifted_JosephTwo os started H enc)
#print axioms proved_JosephTwo
end Go.Proofs.Ythnadgbloamlaaa
