/- A triangle of whole numbers with a diagonal above 0, folded, in fractions (layer 8, HouseTwice). Mathematics alone. -/
import Derived.Test.YtljmggemdkfbiaaGreatHsQ
import Derived.Test.YtljmggemdkfbiaaGreatTrM
namespace Go.Proofs.YtljmggemdkfbiaaGreat
open Go.RowKit
set_option linter.unusedSimpArgs false
set_option linter.unusedVariables false

theorem neg_itH {x : Int} (h : Wh x) : negR (itF x) = itF (-x) := by
  rw [negR_fine (fine_it h)]
  rfl
/-- The dot of a row that has one number alone. -/
theorem dot_oneH {m k : Nat} {f g : Nat → Int} (hk : k < m) (hm : m ≤ 16) {F G : Int} (hf : ∀ c, c < m → -F ≤ f c ∧ f c ≤ F) (hg : ∀ c, c < m → -G ≤ g c ∧ g c ≤ G) (hF : 0 ≤ F ∧ F ≤ 1000) (hG : 0 ≤ G ∧ G ≤ 1000) (hz : ∀ c, k < c → c < m → g c = 0) :
    dotF (tailH m k fun c => itF (f c)) (tailH m k fun c => itF (g c)) = itF (f k * g k) := by
  have e : ∀ f : Nat → Int, (tailH m k fun c => itF (f c)) = ((List.range (m - k)).map fun j => f (k + j)).map itF := fun f => by unfold tailH; rw [List.map_map]; rfl
  have sm : ∀ {f : Nat → Int} {F : Int}, (∀ c, c < m → -F ≤ f c ∧ f c ≤ F) → Sml F ((List.range (m - k)).map fun j => f (k + j)) := fun h x hx => by
    obtain ⟨j, hj, rfl⟩ := List.mem_map.1 hx
    have := List.mem_range.1 hj
    exact h _ (by omega)
  rw [e, e, dot_it6 (A := F) (B := G) (sm hf) (sm hg) (by omega) (by omega) (by simp; omega) (by have := Int.mul_le_mul hF.2 hG.2 hG.1 (by omega : (0 : Int) ≤ 1000); omega)]
  congr 1
  have key : ∀ d, k + d ≤ m → 1 ≤ d → dotI ((List.range d).map fun j => f (k + j)) ((List.range d).map fun j => g (k + j)) = f k * g k := by
    intro d
    induction d with
    | zero => intro _ h; omega
    | succ d ih =>
      intro h1 h2
      unfold dotI
      rw [List.range_succ, List.map_append, List.map_append, List.zipWith_append (by simp), List.sum_append]
      by_cases hd : d = 0
      · subst hd
        simp
      · rw [show (List.zipWith (· * ·) ((List.range d).map fun j => f (k + j)) ((List.range d).map fun j => g (k + j))).sum = f k * g k from ih (by omega) (by omega)]
        simp [hz (k + d) (by omega) (by omega)]
  exact key (m - k) (by omega) (by omega)
/-- What stands there behind k steps. -/
def triH (s : Nat → Nat → Int) (k i j : Nat) : Int := if j < k ∧ j ≤ i then -(s i j) else s i j
theorem foldTri {n : Nat} {s : Nat → Nat → Int} (hn : n ≤ 16) (hs : Sm2 100 n n s) (hl : Low 0 s) (hd : ∀ k, k < n → 0 < s k k) :
    ∀ k, k ≤ n → ∀ i j, i < n → j < n → foldTo kdF n (fun _ => false) (fun i j => itF (s i j)) k i j = itF (triH s k i j)
  | 0, _, i, j, _, _ => by unfold triH; rw [if_neg (by omega)]; rfl
  | k + 1, hk, i, j, hi, hj => by
    obtain ⟨B, hB⟩ : ∃ B, B = foldTo kdF n (fun _ => false) (fun i j => itF (s i j)) k := ⟨_, rfl⟩
    show foldStep kdF n k false (foldTo kdF n (fun _ => false) (fun i j => itF (s i j)) k) i j = _
    rw [← hB]
    have ih : ∀ i j, i < n → j < n → B i j = itF (triH s k i j) := by rw [hB]; exact foldTri hn hs hl hd k (by omega)
    have hkn : k < n := by omega
    have up : ∀ i c, k ≤ c → triH s k i c = s i c := fun i c hc => by unfold triH; rw [if_neg (by omega)]
    have hkk := hs k k hkn hkn
    have hdk := hd k hkn
    have b1 := mul_bound (A := 100) (B := 100) hkk hkk
    -- the row, its root
    have tl : ∀ i, i < n → tailH n k (B i) = tailH n k fun c => itF (s i c) := fun i hi => by
      unfold tailH
      refine List.map_congr_left fun j hj => ?_
      have := List.mem_range.1 hj
      rw [ih i (k + j) hi (by omega), up i (k + j) (by omega)]
    have hroot : rootR (dotF (tailH n k (B k)) (tailH n k (B k))) = itF (s k k) := by
      rw [tl k hkn, dot_oneH hkn hn (F := 100) (G := 100) (fun c hc => hs k c hkn hc) (fun c hc => hs k c hkn hc) (by omega) (by omega) (fun c h1 _ => hl k c h1)]
      exact root_it (by omega) (by omega)
    have hp : pH kdF n k false B = itF (-(s k k)) := by
      unfold pH
      rw [if_neg (by decide)]
      show negR (rootR (dotF (tailH n k (B k)) (tailH n k (B k)))) = _
      rw [hroot, neg_itH ⟨by omega, by omega⟩]
    have hv : ∀ c, k ≤ c → c < n → vH kdF n k false B c = itF (if c = k then 2 * s k k else 0) := fun c h1 h2 => by
      unfold vH
      by_cases hc : c = k
      · rw [if_pos hc, if_pos hc, hp, ih k k hkn hkn, up k k (Nat.le_refl _)]
        show subR (itF (s k k)) (itF (-(s k k))) = _
        rw [sub_it ⟨by omega, by omega⟩ ⟨by omega, by omega⟩ ⟨by omega, by omega⟩]
        congr 1
        omega
      · rw [if_neg hc, if_neg hc, ih k c hkn h2, up k c h1, hl k c (by omega)]
    have vl : tailH n k (vH kdF n k false B) = tailH n k fun c => itF (if c = k then 2 * s k k else 0) := by
      unfold tailH
      refine List.map_congr_left fun j hj => ?_
      have := List.mem_range.1 hj
      exact hv (k + j) (by omega) (by omega)
    unfold foldStep
    by_cases h1 : i = k
    · rw [if_pos h1]
      subst h1
      by_cases h2 : j = i
      · subst h2
        rw [if_pos rfl, hp]
        unfold triH
        rw [if_pos (by omega)]
      · rw [if_neg h2]
        by_cases h3 : i < j
        · rw [if_pos h3]
          unfold triH
          rw [if_neg (by omega), hl i j h3]
          rfl
        · rw [if_neg h3, ih i j hi hj]
          congr 1
          unfold triH
          rw [if_pos (by omega), if_pos (by omega)]
    · rw [if_neg h1]
      by_cases h2 : k < i ∧ k ≤ j
      · rw [if_pos h2]
        have hik := hs i k hi hkn
        have b2 := mul_bound (A := 100) (B := 100) hik hkk
        have hdot : dotF (tailH n k (B i)) (tailH n k (vH kdF n k false B)) = itF (s i k * (2 * s k k)) := by
          rw [tl i hi, vl, dot_oneH hkn hn (F := 100) (G := 200) (fun c hc => hs i c hi hc) (fun c hc => by split <;> omega) (by omega) (by omega) (fun c h1 _ => if_neg (by omega)), if_pos rfl]
        have hq : dotF (tailH n k (vH kdF n k false B)) (tailH n k (vH kdF n k false B)) = itF (2 * s k k * (2 * s k k)) := by
          rw [vl, dot_oneH hkn hn (F := 200) (G := 200) (fun c hc => by split <;> omega) (fun c hc => by split <;> omega) (by omega) (by omega) (fun c h1 _ => if_neg (by omega)), if_pos rfl]
        have e1 : s i k * (2 * s k k) = 2 * (s i k * s k k) := by rw [Int.mul_left_comm]
        have e2 : 2 * s k k * (2 * s k k) = 4 * (s k k * s k k) := by rw [Int.mul_assoc, Int.mul_left_comm (s k k) 2, ← Int.mul_assoc]; rfl
        have hsum : addR (itF (s i k * (2 * s k k))) (itF (s i k * (2 * s k k))) = itF (4 * (s i k * s k k)) := by
          rw [e1, add_it ⟨by omega, by omega⟩ ⟨by omega, by omega⟩ ⟨by omega, by omega⟩]
          congr 1
          omega
        -- v times t
        obtain ⟨t, ht⟩ : ∃ t, t = divR (itF (4 * (s i k * s k k))) (itF (4 * (s k k * s k k))) := ⟨_, rfl⟩
        have htt : tH kdF n k false B i = t := by
          unfold tH
          show divR (addR (dotF (tailH n k (B i)) (tailH n k (vH kdF n k false B))) (dotF (tailH n k (B i)) (tailH n k (vH kdF n k false B)))) (dotF (tailH n k (vH kdF n k false B)) (tailH n k (vH kdF n k false B))) = t
          rw [hdot, hq, hsum, e2, ht]
        have sq0 : 0 < s k k * s k k := Int.mul_pos hdk hdk
        have st : Sm 100 100 t ∧ toQ t = Rat.divInt (s i k) (s k k) := by
          have f1 := fine_it (n := 4 * (s i k * s k k)) ⟨by omega, by omega⟩
          have f2 := fine_it (n := 4 * (s k k * s k k)) ⟨by omega, by omega⟩
          have hh := sm_of (n := s i k) (d := s k k) (N := 100) (D := 100) hdk hik hkk.2 (by omega) (by omega)
          have he : t = ofQ (Rat.divInt (s i k) (s k k)) := by
            rw [ht, divR_fine f1 f2 (by show 4 * (s k k * s k k) ≠ 0; omega)]
            congr 1
            unfold toQ itF
            rw [Rat.div_def, Rat.inv_divInt, Rat.divInt_mul_divInt, Int.mul_one, Int.one_mul, show 4 * (s i k * s k k) = s i k * (4 * s k k) by rw [Int.mul_left_comm], show 4 * (s k k * s k k) = s k k * (4 * s k k) by rw [Int.mul_left_comm]]
            exact Rat.divInt_mul_right (by omega)
          rw [he]
          have hok := hh.1
          rw [ofQ_fine] at hok
          exact ⟨hh, toQ_ofQ hok⟩
        rw [htt, ih i j hi hj, up i j h2.2, hv j h2.2 hj]
        show subR (itF (s i j)) (mulR (itF (if j = k then 2 * s k k else 0)) t) = _
        by_cases hjk : j = k
        · subst hjk
          rw [if_pos rfl]
          have hw : Wh (2 * s i j) := ⟨by omega, by omega⟩
          have fm : mulR (itF (2 * s j j)) t = itF (2 * s i j) := by
            rw [mulR_fine (fine_it ⟨by omega, by omega⟩) st.1.1, st.2, ← ofQ_toQ (fine_it hw)]
            congr 1
            unfold toQ itF
            rw [Rat.divInt_mul_divInt, Int.one_mul, show 2 * s j j * s i j = 2 * s i j * s j j by rw [Int.mul_assoc, Int.mul_comm (s j j), ← Int.mul_assoc]]
            have := Rat.divInt_mul_right (n := 2 * s i j) (d := 1) (a := s j j) (by omega)
            rw [Int.one_mul] at this
            exact this
          rw [fm, sub_it ⟨by omega, by omega⟩ hw ⟨by omega, by omega⟩]
          congr 1
          unfold triH
          rw [if_pos (by omega)]
          omega
        · rw [if_neg hjk]
          have hij := hs i j hi hj
          have fm : mulR (itF 0) t = itF 0 := by
            rw [mulR_fine (fine_it ⟨by omega, by omega⟩) st.1.1, show toQ (itF 0) = 0 from toQ_whole 0, Rat.zero_mul]
            rfl
          rw [fm, sub_it ⟨by omega, by omega⟩ ⟨by omega, by omega⟩ ⟨by omega, by omega⟩, Int.sub_zero]
          congr 1
          unfold triH
          rw [if_neg (by omega)]
      · rw [if_neg h2, ih i j hi hj]
        congr 1
        unfold triH
        by_cases h3 : j < k ∧ j ≤ i
        · rw [if_pos h3, if_pos (by omega)]
        · rw [if_neg h3, if_neg (by omega)]
end Go.Proofs.YtljmggemdkfbiaaGreat
