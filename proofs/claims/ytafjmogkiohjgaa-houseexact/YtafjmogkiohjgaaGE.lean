/- HouseExact, of fractions: where no number of a triangle's square is Bad, it is the square of what was folded. Mathematics alone. -/
import Derived.Test.YtafjmogkiohjgaaGD
import Derived.Test.YtafjmogkiohjgaaGA
import Derived.Test.YtafjmogkiohjgaaGC
import Derived.Test.YtafjmogkiohjgaaFr2
import Derived.Test.YtafjmogkiohjgaaFr3
import Derived.Test.YtafjmogkiohjgaaFrQ
import Derived.Laws.EntriesVeiled
/- Roots of squares, and what is solved, of lower triangles (layer 7). Mathematics alone. -/
namespace Go.Proofs.Ytafjmogkiohjgaa
open Go.RowKit
set_option linter.unusedSimpArgs false
set_option linter.unusedVariables false

theorem root_it {x : Int} (h0 : 0 ≤ x) (h1 : x ≤ 32768) : rootR (itF (x * x)) = itF x := by
  have hw : Wh x := ⟨by omega, by omega⟩
  have hb := mul_bound (A := 32768) (B := 32768) (a := x) (b := x) ⟨by omega, h1⟩ ⟨by omega, h1⟩
  have hm := mul_it hw hw (show Wh (x * x) from ⟨by omega, by omega⟩)
  rw [← hm]
  have := rootR_sq (n := x) (d := 1) (fine_it hw) (by omega) h1 (by decide)
  unfold itF
  rw [this]
  congr 1
  omega
theorem div_it {x y : Int} (hx : Wh x) (hy : Wh y) (hxy : Wh (x * y)) (h0 : y ≠ 0) : divR (itF (x * y)) (itF y) = itF x := by
  refine toQ_div (fine_it hxy) (fine_it hy) h0 (toQ (itF x)) ?_ _ (fine_it hx) rfl
  unfold toQ itF
  rw [Rat.divInt_mul_divInt, Int.one_mul]
/-- A lower triangle. -/
def Low {α : Type} (z : α) (s : Nat → Nat → α) : Prop := ∀ i k, i < k → s i k = z
/-- Its square, below the diagonal. -/
theorem mulI_low {s : Nat → Nat → Int} (h : Low 0 s) (i k : Nat) : ∀ M, k < M → mulI M s (fun i k => s k i) i k = mulI k s (fun i k => s k i) i k + s i k * s k k
  | 0, hk => by omega
  | M + 1, hk => by
    rw [mulI_succ]
    by_cases e : k = M
    · subst e; rfl
    · rw [mulI_low h i k M (by omega), h k M (by omega)]
      simp
/-- One more column of a root: sub, div, root, dot being those of a kind of numbers. -/
def rootStep {α : Type} (sub div : α → α → α) (root : α → α) (dot : List α → List α → α) (p m : Nat → Nat → α) (k i j : Nat) : α :=
  if j = k ∧ k ≤ i then (if i = k then root (sub (p k k) (dot (rowM k m k) (rowM k m k))) else div (sub (p i k) (dot (rowM k m i) (rowM k m k))) (root (sub (p k k) (dot (rowM k m k) (rowM k m k))))) else m i j
/-- The first columns of a root; the others are z. -/
def rootTo {α : Type} (sub div : α → α → α) (root : α → α) (dot : List α → List α → α) (z : α) (p : Nat → Nat → α) : Nat → Nat → Nat → α
  | 0 => fun _ _ => z
  | k + 1 => rootStep sub div root dot p (rootTo sub div root dot z p k) k
/-- The first columns of a triangle. -/
def colsTo {α : Type} (z : α) (s : Nat → Nat → α) (k i j : Nat) : α := if j < k then s i j else z
theorem dot_low {n : Nat} {s : Nat → Nat → Int} (hn : n ≤ 16) (hs : Sm2 100 n n s) {i j k : Nat} (hi : i < n) (hj : j < n) (hk : k ≤ n) :
    dotF ((rowM k s i).map itF) ((rowM k s j).map itF) = itF (mulI k s (fun i k => s k i) i j) ∧ -(10000 * (k : Int)) ≤ mulI k s (fun i k => s k i) i j ∧ mulI k s (fun i k => s k i) i j ≤ 10000 * (k : Int) := by
  have a : Sml 100 (rowM k s i) := row_sml (R := n) (C := k) (fun i' k' h1 h2 => hs i' k' h1 (by omega)) hi
  have b : Sml 100 (rowM k s j) := row_sml (R := n) (C := k) (fun i' k' h1 h2 => hs i' k' h1 (by omega)) hj
  constructor
  · rw [dot_it6 (A := 100) (B := 100) a b (by omega) (by omega) (by rw [rowM_len]; omega) (by omega)]
    rfl
  · have := mulI_bound (A := 100) (B := 100) (R := n) (M := n) (D := n) (a := s) (b := fun i k => s k i) (by omega) (by omega) hs (fun i k hi hk => hs k i hk hi) hi hj k hk
    constructor <;> omega
/-- The root of a triangle's square is it, in fractions. -/
theorem rootTo_it {n : Nat} {s : Nat → Nat → Int} (hn : n ≤ 16) (hs : Sm2 100 n n s) (hl : Low 0 s) (hd : ∀ k, k < n → 0 < s k k) :
    ∀ k, k ≤ n → ∀ i j, i < n → j < n → rootTo subR divR rootR dotF (itF 0) (fun i k => itF (mulI n s (fun i k => s k i) i k)) k i j = itF (colsTo 0 s k i j)
  | 0, _, i, j, _, _ => by simp [rootTo, colsTo]
  | k + 1, hk, i, j, hi, hj => by
    have ih := rootTo_it hn hs hl hd k (by omega)
    have hrow : ∀ i, i < n → rowM k (rootTo subR divR rootR dotF (itF 0) (fun i k => itF (mulI n s (fun i k => s k i) i k)) k) i = (rowM k s i).map itF := fun i hi => by
      unfold rowM
      rw [List.map_map]
      refine List.map_congr_left fun j hj => ?_
      have hj' : j < k := by simpa using hj
      rw [ih i j hi (by omega)]
      simp [colsTo, hj']
    have hkn : k < n := by omega
    have hsub : ∀ i, i < n → subR (itF (mulI n s (fun i k => s k i) i k)) (dotF ((rowM k s i).map itF) ((rowM k s k).map itF)) = itF (s i k * s k k) := fun i hi => by
      obtain ⟨e, b1, b2⟩ := dot_low hn hs hi hkn (k := k) (by omega)
      have e2 := mulI_low hl i k n hkn
      have b3 := mul_bound (A := 100) (B := 100) (hs i k hi hkn) (hs k k hkn hkn)
      rw [e, e2, sub_it ⟨by omega, by omega⟩ ⟨by omega, by omega⟩ ⟨by omega, by omega⟩]
      congr 1
      omega
    have hdk := hd k hkn
    have hb := hs k k hkn hkn
    have hroot : rootR (itF (s k k * s k k)) = itF (s k k) := root_it (by omega) (by omega)
    show rootStep subR divR rootR dotF _ _ k i j = _
    unfold rootStep
    rw [hrow i hi, hrow k hkn, hsub k hkn, hsub i hi, hroot]
    by_cases h : j = k ∧ k ≤ i
    · obtain ⟨rfl, hji⟩ := h
      rw [if_pos ⟨rfl, hji⟩]
      have ec : colsTo 0 s (j + 1) i j = s i j := by simp [colsTo]
      rw [ec]
      by_cases hij : i = j
      · subst hij; rw [if_pos rfl]
      · rw [if_neg hij]
        have b3 := mul_bound (A := 100) (B := 100) (hs i j hi hkn) hb
        have b4 := hs i j hi hkn
        exact div_it ⟨by omega, by omega⟩ ⟨by omega, by omega⟩ ⟨by omega, by omega⟩ (by omega)
    · rw [if_neg h, ih i j hi hj]
      unfold colsTo
      by_cases hjk : j < k
      · rw [if_pos hjk, if_pos (by omega)]
      · rw [if_neg hjk]
        by_cases hjk2 : j = k
        · subst hjk2
          rw [if_pos (by omega), hl i j (by omega)]
        · rw [if_neg (by omega)]
theorem rootTo_all {n : Nat} {s : Nat → Nat → Int} (hn : n ≤ 16) (hs : Sm2 100 n n s) (hl : Low 0 s) (hd : ∀ k, k < n → 0 < s k k) {i j : Nat} (hi : i < n) (hj : j < n) :
    rootTo subR divR rootR dotF (itF 0) (fun i k => itF (mulI n s (fun i k => s k i) i k)) n i j = itF (s i j) := by
  rw [rootTo_it hn hs hl hd n (Nat.le_refl _) i j hi hj]
  simp [colsTo, hj]
end Go.Proofs.Ytafjmogkiohjgaa

/- A triangle of whole numbers with a diagonal above 0, folded, in fractions (layer 8, HouseTwice). Mathematics alone. -/
namespace Go.Proofs.Ytafjmogkiohjgaa
open Go.RowKit
set_option linter.unusedSimpArgs false
set_option linter.unusedVariables false

theorem neg_itH {x : Int} (h : Wh x) : negR (itF x) = itF (-x) := by
  rw [negR_fine (fine_it h)]
  rfl
/-- The dot of a row that has one number alone. -/
theorem dot_oneH {m k : Nat} {f g : Nat → Int} (hk : k < m) (hm : m ≤ 16) {F G : Int} (hf : ∀ c, c < m → -F ≤ f c ∧ f c ≤ F) (hg : ∀ c, c < m → -G ≤ g c ∧ g c ≤ G) (hF : 0 ≤ F ∧ F ≤ 1000) (hG : 0 ≤ G ∧ G ≤ 1000) (hz : ∀ c, k < c → c < m → g c = 0) :
    dotF (tailH m k fun c => itF (f c)) (tailH m k fun c => itF (g c)) = itF (f k * g k) := by
  have e : ∀ f : Nat → Int, (tailH m k fun c => itF (f c)) = ((List.range (m - k)).map fun j => f (k + j)).map itF := fun f => by unfold tailH; rw [List.map_map]; rfl
  have sm : ∀ {f : Nat → Int} {F : Int}, (∀ c, c < m → -F ≤ f c ∧ f c ≤ F) → Sml F ((List.range (m - k)).map fun j => f (k + j)) := fun h x hx => by
    obtain ⟨j, hj, rfl⟩ := List.mem_map.1 hx
    have := List.mem_range.1 hj
    exact h _ (by omega)
  rw [e, e, dot_it6 (A := F) (B := G) (sm hf) (sm hg) (by omega) (by omega) (by simp; omega) (by have := Int.mul_le_mul hF.2 hG.2 hG.1 (by omega : (0 : Int) ≤ 1000); omega)]
  congr 1
  have key : ∀ d, k + d ≤ m → 1 ≤ d → dotI ((List.range d).map fun j => f (k + j)) ((List.range d).map fun j => g (k + j)) = f k * g k := by
    intro d
    induction d with
    | zero => intro _ h; omega
    | succ d ih =>
      intro h1 h2
      unfold dotI
      rw [List.range_succ, List.map_append, List.map_append, List.zipWith_append (by simp), List.sum_append]
      by_cases hd : d = 0
      · subst hd
        simp
      · rw [show (List.zipWith (· * ·) ((List.range d).map fun j => f (k + j)) ((List.range d).map fun j => g (k + j))).sum = f k * g k from ih (by omega) (by omega)]
        simp [hz (k + d) (by omega) (by omega)]
  exact key (m - k) (by omega) (by omega)
/-- What stands there behind k steps. -/
def triH (s : Nat → Nat → Int) (k i j : Nat) : Int := if j < k ∧ j ≤ i then -(s i j) else s i j
theorem foldTri {n : Nat} {s : Nat → Nat → Int} (hn : n ≤ 16) (hs : Sm2 100 n n s) (hl : Low 0 s) (hd : ∀ k, k < n → 0 < s k k) :
    ∀ k, k ≤ n → ∀ i j, i < n → j < n → foldTo kdF n (fun _ => false) (fun i j => itF (s i j)) k i j = itF (triH s k i j)
  | 0, _, i, j, _, _ => by unfold triH; rw [if_neg (by omega)]; rfl
  | k + 1, hk, i, j, hi, hj => by
    obtain ⟨B, hB⟩ : ∃ B, B = foldTo kdF n (fun _ => false) (fun i j => itF (s i j)) k := ⟨_, rfl⟩
    show foldStep kdF n k false (foldTo kdF n (fun _ => false) (fun i j => itF (s i j)) k) i j = _
    rw [← hB]
    have ih : ∀ i j, i < n → j < n → B i j = itF (triH s k i j) := by rw [hB]; exact foldTri hn hs hl hd k (by omega)
    have hkn : k < n := by omega
    have up : ∀ i c, k ≤ c → triH s k i c = s i c := fun i c hc => by unfold triH; rw [if_neg (by omega)]
    have hkk := hs k k hkn hkn
    have hdk := hd k hkn
    have b1 := mul_bound (A := 100) (B := 100) hkk hkk
    -- the row, its root
    have tl : ∀ i, i < n → tailH n k (B i) = tailH n k fun c => itF (s i c) := fun i hi => by
      unfold tailH
      refine List.map_congr_left fun j hj => ?_
      have := List.mem_range.1 hj
      rw [ih i (k + j) hi (by omega), up i (k + j) (by omega)]
    have hroot : rootR (dotF (tailH n k (B k)) (tailH n k (B k))) = itF (s k k) := by
      rw [tl k hkn, dot_oneH hkn hn (F := 100) (G := 100) (fun c hc => hs k c hkn hc) (fun c hc => hs k c hkn hc) (by omega) (by omega) (fun c h1 _ => hl k c h1)]
      exact root_it (by omega) (by omega)
    have hp : pH kdF n k false B = itF (-(s k k)) := by
      unfold pH
      rw [if_neg (by decide)]
      show negR (rootR (dotF (tailH n k (B k)) (tailH n k (B k)))) = _
      rw [hroot, neg_itH ⟨by omega, by omega⟩]
    have hv : ∀ c, k ≤ c → c < n → vH kdF n k false B c = itF (if c = k then 2 * s k k else 0) := fun c h1 h2 => by
      unfold vH
      by_cases hc : c = k
      · rw [if_pos hc, if_pos hc, hp, ih k k hkn hkn, up k k (Nat.le_refl _)]
        show subR (itF (s k k)) (itF (-(s k k))) = _
        rw [sub_it ⟨by omega, by omega⟩ ⟨by omega, by omega⟩ ⟨by omega, by omega⟩]
        congr 1
        omega
      · rw [if_neg hc, if_neg hc, ih k c hkn h2, up k c h1, hl k c (by omega)]
    have vl : tailH n k (vH kdF n k false B) = tailH n k fun c => itF (if c = k then 2 * s k k else 0) := by
      unfold tailH
      refine List.map_congr_left fun j hj => ?_
      have := List.mem_range.1 hj
      exact hv (k + j) (by omega) (by omega)
    unfold foldStep
    by_cases h1 : i = k
    · rw [if_pos h1]
      subst h1
      by_cases h2 : j = i
      · subst h2
        rw [if_pos rfl, hp]
        unfold triH
        rw [if_pos (by omega)]
      · rw [if_neg h2]
        by_cases h3 : i < j
        · rw [if_pos h3]
          unfold triH
          rw [if_neg (by omega), hl i j h3]
          rfl
        · rw [if_neg h3, ih i j hi hj]
          congr 1
          unfold triH
          rw [if_pos (by omega), if_pos (by omega)]
    · rw [if_neg h1]
      by_cases h2 : k < i ∧ k ≤ j
      · rw [if_pos h2]
        have hik := hs i k hi hkn
        have b2 := mul_bound (A := 100) (B := 100) hik hkk
        have hdot : dotF (tailH n k (B i)) (tailH n k (vH kdF n k false B)) = itF (s i k * (2 * s k k)) := by
          rw [tl i hi, vl, dot_oneH hkn hn (F := 100) (G := 200) (fun c hc => hs i c hi hc) (fun c hc => by split <;> omega) (by omega) (by omega) (fun c h1 _ => if_neg (by omega)), if_pos rfl]
        have hq : dotF (tailH n k (vH kdF n k false B)) (tailH n k (vH kdF n k false B)) = itF (2 * s k k * (2 * s k k)) := by
          rw [vl, dot_oneH hkn hn (F := 200) (G := 200) (fun c hc => by split <;> omega) (fun c hc => by split <;> omega) (by omega) (by omega) (fun c h1 _ => if_neg (by omega)), if_pos rfl]
        have e1 : s i k * (2 * s k k) = 2 * (s i k * s k k) := by rw [Int.mul_left_comm]
        have e2 : 2 * s k k * (2 * s k k) = 4 * (s k k * s k k) := by rw [Int.mul_assoc, Int.mul_left_comm (s k k) 2, ← Int.mul_assoc]; rfl
        have hsum : addR (itF (s i k * (2 * s k k))) (itF (s i k * (2 * s k k))) = itF (4 * (s i k * s k k)) := by
          rw [e1, add_it ⟨by omega, by omega⟩ ⟨by omega, by omega⟩ ⟨by omega, by omega⟩]
          congr 1
          omega
        -- v times t
        obtain ⟨t, ht⟩ : ∃ t, t = divR (itF (4 * (s i k * s k k))) (itF (4 * (s k k * s k k))) := ⟨_, rfl⟩
        have htt : tH kdF n k false B i = t := by
          unfold tH
          show divR (addR (dotF (tailH n k (B i)) (tailH n k (vH kdF n k false B))) (dotF (tailH n k (B i)) (tailH n k (vH kdF n k false B)))) (dotF (tailH n k (vH kdF n k false B)) (tailH n k (vH kdF n k false B))) = t
          rw [hdot, hq, hsum, e2, ht]
        have sq0 : 0 < s k k * s k k := Int.mul_pos hdk hdk
        have st : Sm 100 100 t ∧ toQ t = Rat.divInt (s i k) (s k k) := by
          have f1 := fine_it (n := 4 * (s i k * s k k)) ⟨by omega, by omega⟩
          have f2 := fine_it (n := 4 * (s k k * s k k)) ⟨by omega, by omega⟩
          have hh := sm_of (n := s i k) (d := s k k) (N := 100) (D := 100) hdk hik hkk.2 (by omega) (by omega)
          have he : t = ofQ (Rat.divInt (s i k) (s k k)) := by
            rw [ht, divR_fine f1 f2 (by show 4 * (s k k * s k k) ≠ 0; omega)]
            congr 1
            unfold toQ itF
            rw [Rat.div_def, Rat.inv_divInt, Rat.divInt_mul_divInt, Int.mul_one, Int.one_mul, show 4 * (s i k * s k k) = s i k * (4 * s k k) by rw [Int.mul_left_comm], show 4 * (s k k * s k k) = s k k * (4 * s k k) by rw [Int.mul_left_comm]]
            exact Rat.divInt_mul_right (by omega)
          rw [he]
          have hok := hh.1
          rw [ofQ_fine] at hok
          exact ⟨hh, toQ_ofQ hok⟩
        rw [htt, ih i j hi hj, up i j h2.2, hv j h2.2 hj]
        show subR (itF (s i j)) (mulR (itF (if j = k then 2 * s k k else 0)) t) = _
        by_cases hjk : j = k
        · subst hjk
          rw [if_pos rfl]
          have hw : Wh (2 * s i j) := ⟨by omega, by omega⟩
          have fm : mulR (itF (2 * s j j)) t = itF (2 * s i j) := by
            rw [mulR_fine (fine_it ⟨by omega, by omega⟩) st.1.1, st.2, ← ofQ_toQ (fine_it hw)]
            congr 1
            unfold toQ itF
            rw [Rat.divInt_mul_divInt, Int.one_mul, show 2 * s j j * s i j = 2 * s i j * s j j by rw [Int.mul_assoc, Int.mul_comm (s j j), ← Int.mul_assoc]]
            have := Rat.divInt_mul_right (n := 2 * s i j) (d := 1) (a := s j j) (by omega)
            rw [Int.one_mul] at this
            exact this
          rw [fm, sub_it ⟨by omega, by omega⟩ hw ⟨by omega, by omega⟩]
          congr 1
          unfold triH
          rw [if_pos (by omega)]
          omega
        · rw [if_neg hjk]
          have hij := hs i j hi hj
          have fm : mulR (itF 0) t = itF 0 := by
            rw [mulR_fine (fine_it ⟨by omega, by omega⟩) st.1.1, show toQ (itF 0) = 0 from toQ_whole 0, Rat.zero_mul]
            rfl
          rw [fm, sub_it ⟨by omega, by omega⟩ ⟨by omega, by omega⟩ ⟨by omega, by omega⟩, Int.sub_zero]
          congr 1
          unfold triH
          rw [if_neg (by omega)]
      · rw [if_neg h2, ih i j hi hj]
        congr 1
        unfold triH
        by_cases h3 : j < k ∧ j ≤ i
        · rw [if_pos h3, if_pos (by omega)]
        · rw [if_neg h3, if_neg (by omega)]
end Go.Proofs.Ytafjmogkiohjgaa

/- awake of layer 8's laws. -/
namespace Go.Proofs.Ytafjmogkiohjgaa
open Go.RowKit
set_option linter.unusedSimpArgs false
set_option linter.unusedVariables false

theorem fold345 (f : Nat → Nat → Fr) (h0 : f 0 0 = itF 3) (h1 : f 0 1 = itF 4) : foldF 1 2 f 0 0 = itF 5 := by
  have ht : tailH 2 0 (f 0) = [3, 4].map itF := by simp [tailH, List.range_succ, h0, h1]
  have hs : Sml 4 [3, 4] := by intro x hx; simp at hx; omega
  have hd : dotF (tailH 2 0 (f 0)) (tailH 2 0 (f 0)) = itF (5 * 5) := by
    rw [ht, dot_it hs hs (by omega) (by omega) (by simp) (by omega)]
    rfl
  have hp : foldL kdF lowF 2 f 1 0 0 = itF (-5) := by
    show foldStep kdF 2 0 (lowF (f 0 0)) f 0 0 = _
    unfold foldStep
    rw [if_pos rfl, if_pos rfl]
    unfold pH
    rw [show lowF (f 0 0) = false by rw [h0]; decide, if_neg (by simp)]
    show negR (rootR (dotF (tailH 2 0 (f 0)) (tailH 2 0 (f 0)))) = _
    rw [hd, root_it (by omega) (by omega), neg_itH ⟨by omega, by omega⟩]
  have hl : lowF (foldL kdF lowF 2 f 1 0 0) = true := by rw [hp]; decide
  unfold foldF signsH
  rw [if_pos ⟨Nat.le_refl _, hl⟩, hp]
  show negR (itF (-5)) = _
  rw [neg_itH ⟨by omega, by omega⟩]
  rfl
theorem rq_pair8 (w : World) (x y : Int) (t : TypeId) : Rq 1 (fun n => [.int .i64 n]) (w.alloc (.cells #[.int .i64 x, .int .i64 y] t)) (.slice (some ⟨w.heap.size, 0, none⟩) 2 2) [x, y] := by
  refine .inr ⟨w.heap.size, 0, 2, rfl, Nat.le_refl _, by simp, fun j v hj k s hu => ?_⟩
  rcases k with _ | k
  · simp at hu
    subst hu
    rcases j with _ | _ | j
    · simp at hj; subst hj; simp [go_sem]
    · simp at hj; subst hj; simp [go_sem]
    · simp at hj
  · simp at hu
theorem whole12 (w : World) (t : TypeId) (b0 : Nat) (hb0 : b0 = w.heap.size) : Calls Try.prog 5 #[.int .i64 1, .int .i64 2, .slice (some ⟨b0, 0, none⟩) 2 2] (w.alloc (.cells #[.int .i64 3, .int .i64 4] t))
    fun e w' => ∃ p' cap', e = .returned (.tuple #[mV 1 2 p' 2 cap', .bool true]) ∧ Mx 3 cellsF w' 1 2 p' 2 cap' (fun _ k => if k = 0 then itF 3 else itF 4) ∧ Bl (w.alloc (.cells #[.int .i64 3, .int .i64 4] t)) w' := by
  subst hb0
  refine (mWholeF 1 2 _ 2 2 [3, 4] _ (rq_pair8 w 3 4 t) (by decide) rfl).mono ?_
  rintro e w' ⟨p', cap', rfl, hr, hb⟩
  exact ⟨p', cap', rfl, ⟨⟨by omega, by omega, by omega, by omega⟩, rfl, hr.q⟩, hb⟩
set_option maxHeartbeats 1000000 in
theorem awake8_any (w : World) : Calls Try.prog 4 #[] w fun e w' => e = .returned (.bool true) ∧ Bl w w' := by
  have EQ : ∀ u, (binOp .eql 30 (frV (itF 5)) (frV (itF 5))).run Try.prog u = .ok (.bool true) u := fun u => eql_fr (itF 5) (itF 5) u
  go_enter Try.func4, Try.ntmps4
  go_wp2_with fail
  refine (whole12 w _ _ rfl).mono ?_
  rintro e w1 ⟨p1, c1, rfl, hx, h1⟩
  have HX := hideP hx
  clear hx
  have m1 := MBox.new w1 1 2 p1 2 c1 26
  go_wp2_with fail
  refine (hFoldAllF 1 2 p1 2 c1 _ _ (HX.out.later ((Bl.refl _).alloc _)) (by omega)).mono ?_
  rintro e w2 ⟨p2, c2, rfl, hy, h2⟩
  have HY := hideP hy
  clear hy
  have m3 := MBox.new w2 1 1 p2 1 c2 26
  obtain ⟨x0, x1, x2, _, _, _, lt⟩ := m3
  go_wp2_with fail
  refine (mAtF 1 1 p2 1 c2 _ _ (HY.out.later ((Bl.refl _).alloc _)) 0 0 (by omega) (by omega)).mono ?_
  rintro e w4 ⟨rfl, h4⟩
  rw [fold345 _ rfl rfl]
  go_wp2_with fail
  refine (new_any 5 1 _).mono ?_
  rintro e w5 ⟨rfl, h5⟩
  rw [new_it (n := 5) ⟨by omega, by omega⟩]
  clear x0 x1 x2
  go_wp2
  go_ret
  exact ⟨rfl, (((((Bl.refl w).alloc _).trans h1).alloc _).trans h2).trans (((Bl.refl w2).alloc _).trans (h4.trans h5))⟩
end Go.Proofs.Ytafjmogkiohjgaa

/- The square of a root, of fractions (layer 7). Mathematics alone. -/
namespace Go.Proofs.Ytafjmogkiohjgaa
open Go.RowKit
set_option linter.unusedSimpArgs false
set_option linter.unusedVariables false

theorem rootTo_stable {α : Type} {sub div : α → α → α} {root : α → α} {dot : List α → List α → α} {z : α} {p : Nat → Nat → α} {i j k : Nat} (hj : j < k) : ∀ m, k ≤ m → rootTo sub div root dot z p m i j = rootTo sub div root dot z p k i j
  | 0, h => by omega
  | m + 1, h => by
    by_cases e : k = m + 1
    · rw [e]
    · rw [← rootTo_stable hj m (by omega)]
      show rootStep _ _ _ _ _ _ m i j = _
      unfold rootStep
      rw [if_neg (by omega)]
theorem rootTo_up {α : Type} {sub div : α → α → α} {root : α → α} {dot : List α → List α → α} {z : α} {p : Nat → Nat → α} {i j : Nat} (h : i < j) : ∀ m, rootTo sub div root dot z p m i j = z
  | 0 => rfl
  | m + 1 => by
    show rootStep _ _ _ _ _ _ m i j = _
    unfold rootStep
    rw [if_neg (by omega)]
    exact rootTo_up h m
theorem rootTo_row {α : Type} {sub div : α → α → α} {root : α → α} {dot : List α → List α → α} {z : α} {p : Nat → Nat → α} {i k n : Nat} (h : k ≤ n) : rowM k (rootTo sub div root dot z p k) i = rowM k (rootTo sub div root dot z p n) i :=
  rowM_congr fun j hj => (rootTo_stable hj n h).symm
/-- What stands in a root, by itself. -/
theorem rootTo_eq {α : Type} {sub div : α → α → α} {root : α → α} {dot : List α → List α → α} {z : α} {p : Nat → Nat → α} {n i k : Nat} (hk : k < n) (hi : k ≤ i) {s : Nat → Nat → α} (hs : s = rootTo sub div root dot z p n) :
    s i k = if i = k then root (sub (p k k) (dot (rowM k s k) (rowM k s k))) else div (sub (p i k) (dot (rowM k s i) (rowM k s k))) (s k k) := by
  have e : ∀ i, k ≤ i → s i k = if i = k then root (sub (p k k) (dot (rowM k s k) (rowM k s k))) else div (sub (p i k) (dot (rowM k s i) (rowM k s k))) (root (sub (p k k) (dot (rowM k s k) (rowM k s k)))) := fun i hi => by
    rw [show s i k = rootTo sub div root dot z p (k + 1) i k by rw [hs]; exact rootTo_stable (by omega) n (by omega)]
    show rootStep _ _ _ _ _ _ k i k = _
    unfold rootStep
    rw [if_pos ⟨rfl, hi⟩, rootTo_row (i := i) (show k ≤ n by omega), rootTo_row (i := k) (show k ≤ n by omega), ← hs]
  rw [e i hi]
  by_cases h : i = k
  · rw [if_pos h, if_pos h]
  · rw [if_neg h, if_neg h, e k (Nat.le_refl _), if_pos rfl]
/-- A dot whose second row ends at k. -/
theorem dotQ_low {s : Nat → Nat → Rat} {i k : Nat} (h : ∀ j, k < j → s k j = 0) : ∀ n, k < n → dotQ (rowM n s i) (rowM n s k) = dotQ (rowM k s i) (rowM k s k) + s i k * s k k
  | 0, hk => by omega
  | n + 1, hk => by
    rw [rowM_succ, rowM_succ, dotQ_snoc (by rw [rowM_len, rowM_len])]
    by_cases e : k = n
    · subst e; rfl
    · rw [dotQ_low h n (by omega), h n (by omega), Rat.mul_zero, Rat.add_zero]
theorem row_q (k : Nat) (s : Nat → Nat → Fr) (i : Nat) : (rowM k s i).map toQ = rowM k (fun i j => toQ (s i j)) i := by unfold rowM; rw [List.map_map]; rfl
theorem zip_mem {n : Nat} {s : Nat → Nat → Fr} {i k j : Nat} (hj : j < n) : mulR (s i j) (s k j) ∈ List.zipWith mulR (rowM n s i) (rowM n s k) := by
  refine List.mem_of_getElem? (i := j) ?_
  rw [List.getElem?_zipWith, rowM_get s i hj, rowM_get s k hj]
/-- The square of a root, where it may be one, is what it is the root of. -/
theorem root_square {n : Nat} {p s : Nat → Nat → Fr} {z : Fr} (hz : toQ z = 0) (hs : s = rootTo subR divR rootR dotF z p n) {i k : Nat} (hk : k < n) (hi : k ≤ i) (hf : fineR (dotF (rowM n s i) (rowM n s k)) = true) :
    dotF (rowM n s i) (rowM n s k) = p i k := by
  obtain ⟨hall, hq⟩ := dot_q hf
  have hup : ∀ j, k < j → toQ (s k j) = 0 := fun j hj => by rw [hs, rootTo_up hj n]; exact hz
  rw [row_q, row_q, dotQ_low (s := fun i j => toQ (s i j)) hup n hk] at hq
  have hm := mul_q (hall _ (zip_mem (i := i) (k := k) hk))
  have e := rootTo_eq hk hi hs
  have ek := rootTo_eq hk (Nat.le_refl k) hs
  rw [if_pos rfl] at ek
  by_cases h : i = k
  · subst h
    have hr := root_q (a := subR (p i i) (dotF (rowM i s i) (rowM i s i))) (by rw [← ek]; exact hm.1)
    rw [← ek] at hr
    obtain ⟨f1, f2, f3⟩ := sub_q hr.1
    refine fr_eq hf f1 ?_
    rw [hq, hr.2.1, f3, (dot_q f2).2, row_q, Rat.add_comm, Rat.sub_eq_add_neg, Rat.add_assoc, Rat.neg_add_cancel, Rat.add_zero]
  · rw [if_neg h] at e
    have hdv : fineR (divR (subR (p i k) (dotF (rowM k s i) (rowM k s k))) (s k k)) = true := by rw [← e]; exact hm.1
    have hmq := div_mul_q hdv
    rw [← e] at hmq
    obtain ⟨f1, f2, f3⟩ := sub_q (div_q hdv).1
    refine fr_eq hf f1 ?_
    rw [hq, hmq, f3, (dot_q f2).2, row_q, row_q, Rat.add_comm, Rat.sub_eq_add_neg, Rat.add_assoc, Rat.neg_add_cancel, Rat.add_zero]
end Go.Proofs.Ytafjmogkiohjgaa

/- Contract of the document's Mul (layer 6). -/
namespace Go.Proofs.Ytafjmogkiohjgaa
open Go.RowKit
set_option linter.unusedSimpArgs false
set_option linter.unusedVariables false

theorem own_blI {w w' : World} {B n : Nat} {v : Value} {l : List Value} (h : w.ownsRow B 3 1 v n l) (k : Bl w w') : w'.ownsRow B 3 1 v n l := by
  refine ⟨h.1, ?_⟩
  rcases h.2 with hn | ⟨g, cap, cur, rfl, hb, hg, rest⟩
  · exact .inl hn
  · exact .inr ⟨g, cap, cur, rfl, hb, (Below.block k g (Array.getElem?_eq_some_iff.1 hg).1).trans hg, rest⟩
theorem newI_cells (w : World) (x : Int) (t : TypeId) : ∀ j u, (cellsI x)[j]? = some u → (w.alloc (.cells #[.int .i64 x] t)).cell? ((⟨w.heap.size, 0, none⟩ : Addr).add j) = some u := by
  intro j u hu
  unfold cellsI at hu
  rcases j with _ | j
  · simp at hu
    subst hu
    simp [go_sem, Addr.add]
  · simp at hu
end Go.Proofs.Ytafjmogkiohjgaa

/- Contracts of the document's Clear, Turn, Square of layer 7, and of the laws' sides. Written by genTl.py. -/
namespace Go.Proofs.Ytafjmogkiohjgaa
open Go.RowKit
set_option linter.unusedSimpArgs false
set_option linter.unusedVariables false

/-- Cleared. -/
def clrI (f : Nat → Nat → Int) (i k : Nat) : Int := if k ≤ i then f i k else 0
/-- A square. -/
def sqI (n : Nat) (f : Nat → Nat → Int) : Nat → Nat → Int := mulI n f (fun i k => f k i)
theorem mulI_congr7 {M : Nat} {a b a' b' : Nat → Nat → Int} {i k : Nat} (h1 : ∀ j, j < M → a i j = a' i j) (h2 : ∀ j, j < M → b j k = b' j k) : mulI M a b i k = mulI M a' b' i k := by
  unfold mulI
  congr 1
  · exact List.map_congr_left fun j hj => h1 j (by simpa using hj)
  · exact List.map_congr_left fun j hj => h2 j (by simpa using hj)
theorem ofL_mk7 {R C : Nat} (f : Nat → Nat → Int) {i k : Nat} (hi : i < R) (hk : k < C) : ofL C (mk R C f) i k = f i k := by
  have h := ofL_get (R := R) (M := C) (ns := mk R C f) (by rw [mk_len]) hi hk
  rw [mk_get f hi hk] at h
  exact (Option.some.inj h).symm

/-- sides: what it tells. -/
def SidesP (ns : List Int) (n : Int) (w : World) (e : Ending) (w' : World) : Prop := ∃ b, e = .returned (.bool b) ∧ (b = true → 1 ≤ n ∧ n ≤ 5 ∧ (ns.length : Int) = n * n ∧ Sml 100 ns) ∧ w' = w
theorem sidesP {ns : List Int} {n : Int} {w : World} (b : Bool) (h : b = true → 1 ≤ n ∧ n ≤ 5 ∧ (ns.length : Int) = n * n ∧ Sml 100 ns) : SidesP ns n w (.returned (.bool b)) w := ⟨b, rfl, h, rfl⟩
end Go.Proofs.Ytafjmogkiohjgaa

/- Root, as the program fills it, number by number, is the document's, column by column; of a square of whole numbers (layer 7). -/
namespace Go.Proofs.Ytafjmogkiohjgaa
open Go.RowKit
set_option linter.unusedSimpArgs false
set_option linter.unusedVariables false

/-- What Root tells of a place, of what it is so far, of any kind of numbers. -/
def rootVG {α : Type} (sub div : α → α → α) (root : α → α) (dot : List α → List α → α) (P g : Nat → Nat → α) (i k : Nat) : α :=
  if i = k then root (sub (P i k) (dot (rowM k g i) (rowM k g k))) else div (sub (P i k) (dot (rowM k g i) (rowM k g k))) (g k k)
theorem rowM_congr7 {α : Type} {k i : Nat} {f g : Nat → Nat → α} (h : ∀ j, j < k → f i j = g i j) : rowM k f i = rowM k g i :=
  List.map_congr_left fun j hj => h j (by simpa using hj)
theorem rootStep_congr {α : Type} {sub div : α → α → α} {root : α → α} {dot : List α → List α → α} {P G H : Nat → Nat → α} {k i j : Nat} (h1 : ∀ j, G i j = H i j) (h2 : ∀ j, G k j = H k j) :
    rootStep sub div root dot P G k i j = rootStep sub div root dot P H k i j := by
  unfold rootStep
  rw [rowM_congr7 (fun j _ => h1 j), rowM_congr7 (fun j _ => h2 j), h1 j]
theorem colT_root {α : Type} (sub div : α → α → α) (root : α → α) (dot : List α → List α → α) (P G : Nat → Nat → α) (k : Nat) :
    ∀ m a b, colT (rootVG sub div root dot P) k G m a b = if b = k ∧ k ≤ a ∧ a < k + m then rootStep sub div root dot P G k a b else G a b
  | 0, a, b => by rw [if_neg (by omega)]; rfl
  | m + 1, a, b => by
    have ih := colT_root sub div root dot P G k m
    show putM _ _ _ _ a b = _
    unfold putM
    by_cases h : a = k + m ∧ b = k
    · rw [if_pos h, if_pos (by omega)]
      obtain ⟨rfl, rfl⟩ := h
      have hr : ∀ i, rowM b (colT (rootVG sub div root dot P) b G m) i = rowM b G i := fun i => rowM_congr7 fun j hj => by rw [ih, if_neg (by omega)]
      have hbb := ih b b
      generalize colT (rootVG sub div root dot P) b G m = H at *
      unfold rootVG
      rw [hr, hr]
      unfold rootStep
      rw [if_pos (by omega : b = b ∧ b ≤ b + m)]
      by_cases hm : b + m = b
      · rw [if_pos hm, if_pos hm, hm]
      · rw [if_neg hm, if_neg hm]
        congr 1
        rw [if_pos (by omega)] at hbb
        rw [hbb]
        unfold rootStep
        rw [if_pos (by omega), if_pos rfl]
    · rw [if_neg h, ih]
      by_cases h2 : b = k ∧ k ≤ a ∧ a < k + m
      · rw [if_pos h2, if_pos (by omega)]
      · rw [if_neg h2, if_neg (by omega)]
theorem triT_root {α : Type} (sub div : α → α → α) (root : α → α) (dot : List α → List α → α) (z : α) (P : Nat → Nat → α) (n : Nat) :
    ∀ k, k ≤ n → ∀ i j, i < n → triT (rootVG sub div root dot P) z n k i j = rootTo sub div root dot z P k i j
  | 0, _, i, j, _ => rfl
  | k + 1, hk, i, j, hi => by
    have ih := triT_root sub div root dot z P n k (by omega)
    show colT _ _ _ (n - k) i j = rootStep sub div root dot P (rootTo sub div root dot z P k) k i j
    rw [colT_root]
    by_cases h : j = k ∧ k ≤ i ∧ i < k + (n - k)
    · rw [if_pos h]
      exact rootStep_congr (fun j => ih i j hi) (fun j => ih k j (by omega))
    · rw [if_neg h, ih i j hi]
      unfold rootStep
      rw [if_neg (by omega)]
theorem rootVF_G : rootVF = rootVG subR divR rootR dotF := rfl
theorem clrI_low (f : Nat → Nat → Int) : Low 0 (clrI f) := fun i k h => by unfold clrI; rw [if_neg (by omega)]
theorem clrI_sm {A : Int} {n : Nat} {f : Nat → Nat → Int} (hA : 0 ≤ A) (h : Sm2 A n n f) : Sm2 A n n (clrI f) := fun i k hi hk => by
  unfold clrI
  split
  · exact h i k hi hk
  · omega
end Go.Proofs.Ytafjmogkiohjgaa

/- Contract of tri's Is, of fractions (layer 7), of whatever function value zero is. -/
namespace Go.Proofs.Ytafjmogkiohjgaa
open Go.RowKit Go.Shelf
set_option linter.unusedSimpArgs false
set_option linter.unusedVariables false
attribute [local go_sem] Oper.semAt_some
/-- The address of a row's others: of none that could be read it stays. -/
def dropP7 (p : Option Addr) (cap m s : Nat) : Option Addr := if cap = m then p else p.map fun a => a.add (m * s)
theorem Try.drop7F (p : Option Addr) (n cap m : Nat) (w : World) (h : m ≤ n) (hc : n ≤ cap) : (Instr.sliceAt 24 (.slice p n cap) (some (.int .i64 m)) none none).run Try.prog w = .ok (.slice (dropP7 p cap m 3) (n - m) (cap - m)) w := by
  have hu : Try.prog.underlying 24 = some (.slice (Try.prog.elem 24)) := by kernel_rfl
  obtain ⟨i0, hi, hz0, hz1, hz2⟩ := info_parts Try.info_F
  have he : Try.prog.elem 24 = 30 := by kernel_rfl
  rw [run_sliceAt_slice (h := hu), run_slice_l (ht := hu) (h0 := by omega) (h1 := by omega), he]
  by_cases hcm : cap = m
  · simp [sizeOf, typeInfo, hi, sliced, Result.andThen, hz1, dropP7, hcm]
  · have hcm' : ¬ cap - m = 0 := by omega
    simp [sizeOf, typeInfo, hi, sliced, Result.andThen, hz1, dropP7, hcm, hcm']
theorem Rw.drop7 {α : Type} {s : Nat} {c : α → List Value} {w : World} {p : Option Addr} {cap l : Nat} {xs : List α} (h : Rw s c w (.slice p l cap) xs) (hl : l = xs.length) (n : Nat) (hn : n ≤ xs.length) :
    Rw s c w (.slice (dropP7 p cap n s) (l - n) (cap - n)) (xs.drop n) := by
  subst hl
  rcases h with ⟨e, rfl⟩ | ⟨b, o, cap', e, hc, hb, hx⟩
  · cases e
    obtain rfl : n = 0 := by simpa using hn
    exact .inl ⟨rfl, rfl⟩
  · cases e
    unfold dropP7
    split
    · rename_i hcn
      have hd : xs.drop n = [] := List.drop_eq_nil_of_le (by omega)
      rw [hd]
      exact .inr ⟨b, o, cap - n, by simp; omega, by simp, hb, fun j x hj => by simp at hj⟩
    · have hadd : (⟨b, o, none⟩ : Addr).add (n * s) = ⟨b, o + n * s, none⟩ := by unfold Addr.add; split <;> simp_all
      refine .inr ⟨b, o + n * s, cap - n, ?_, by simp; omega, hb, fun j x hj k u hu => ?_⟩
      · simp [hadd]
      · rw [List.getElem?_drop] at hj
        have := hx (n + j) x hj k u hu
        rwa [show o + (n + j) * s + k = o + n * s + j * s + k by rw [Nat.add_mul]; omega] at this

/-- What is above the diagonal, told by b. -/
def aboveB (n : Nat) (f : Nat → Nat → Fr) (b : Fr → Bool) : Bool := (List.range n).all fun i => (List.range n).all fun k => decide (k ≤ i) || b (f i k)
theorem aboveB_iff {n : Nat} {f : Nat → Nat → Fr} {b : Fr → Bool} : aboveB n f b = true ↔ ∀ i k, i < k → k < n → b (f i k) = true := by
  unfold aboveB
  simp only [List.all_eq_true, List.mem_range, Bool.or_eq_true, decide_eq_true_eq]
  constructor
  · intro h i k hik hk
    exact (h i (by omega) k hk).resolve_left (by omega)
  · intro h i hi k hk
    by_cases hki : k ≤ i
    · exact .inl hki
    · exact .inr (h i k (by omega) hk)
theorem aboveB_no {n : Nat} {f : Nat → Nat → Fr} {b : Fr → Bool} {i k : Nat} (hik : i < k) (hk : k < n) (h : b (f i k) = false) : aboveB n f b = false := by
  cases e : aboveB n f b with
  | false => rfl
  | true =>
    have := aboveB_iff.1 e i k hik hk
    rw [h] at this
    cases this
theorem isBox_own {X Y : World} {B B0 : Nat} {t : TypeId} {v : Value} {row : Option Nat} (h : Boxed X B t v) (hg : X.grownBy Y row) (h0 : B < B0) (hr : ∀ r, row = some r → B0 ≤ r ∧ ∃ o : Obj, X.heap[r]? = some o ∧ o.isCells = false) : Boxed Y B t v :=
  (hg.block B h.lt (fun e => by have := (hr B e.symm).1; omega)).trans h
end Go.Proofs.Ytafjmogkiohjgaa

/- awake of layer 7's laws; whether a number is 0, as the laws' closures tell it. -/
namespace Go.Proofs.Ytafjmogkiohjgaa
open Go.RowKit
set_option linter.unusedSimpArgs false
set_option linter.unusedVariables false

def zeroN (x : Fr) : Bool := x.n == 0
theorem aboveB_low {n : Nat} {s : Nat → Nat → Int} (hl : Low 0 s) : aboveB n (fun i k => itF (s i k)) zeroN = true :=
  aboveB_iff.2 fun i k h _ => by
    unfold zeroN itF
    rw [hl i k h]
    rfl
/-- A matrix of whole numbers, as layer 6's Same is asked of it. -/
theorem mxI_rq {w : World} {R C : Nat} {p : Option Addr} {n cap : Nat} {s : Nat → Nat → Int} (h : MxI w R C p n cap s) : Rq 3 cellsF w (.slice p n cap) ((mk R C s).map itF) := by
  rw [mk_map]; exact h.2.2
end Go.Proofs.Ytafjmogkiohjgaa

/- Contracts of mat's Col, Mirror, of fractions (layer 6). Written by genMa.py. -/
namespace Go.Proofs.Ytafjmogkiohjgaa
open Go.RowKit
set_option linter.unusedSimpArgs false
set_option linter.unusedVariables false

/-- The number below the diagonal, of two places. -/
def mirM {α : Type} (f : Nat → Nat → α) (i k : Nat) : α := f (max i k) (min i k)
theorem mMirror1F (R : Nat) (p : Option Addr) (n cap : Nat) (f : Nat → Nat → Fr) (w : World) (h : Mx 3 cellsF w R R p n cap f) (mb : Nat) (hm : MBox w mb R R p n cap) (i k : Nat) (hi : i < R) (hk : k < R) :
    Calls Try.prog 37 #[.int .i64 i, .int .i64 k, .pointer (some ⟨mb, 0, none⟩)] w fun e w' => e = .returned (frV (mirM f i k)) ∧ Bl w w' := by
  obtain ⟨W, hW⟩ : ∃ W, W = w.alloc (.cells #[.int .i64 0, .int .i64 0, .bool false] 30) := ⟨_, rfl⟩
  have b0 : Bl w W := by rw [hW]; exact (Bl.refl _).alloc _
  have x0 : FBox W w.heap.size zeroR := by rw [hW]; exact FBox.new w zeroR 30
  obtain ⟨c0, c1, c2, f0, f1, f2, lt⟩ := hm
  have HW := hideP hW
  clear hW
  rcases Nat.lt_trichotomy i k with hik | hik | hik
  · have q1 : (i : Int) < (k : Int) := by omega
    have q2 : ¬ (k : Int) < (i : Int) := by omega
    have A := hideP (fun u (hu : Bl w u) => mAtF R R p n cap f u (h.later hu) k i (by omega) (by omega))
    have e0 : mirM f i k = f k i := by unfold mirM; rw [show max i k = k by omega, show min i k = i by omega]
    rw [e0]
    clear h e0
    generalize f k i = x at *
    go_enter Try.func37, Try.ntmps37
    go_wp2_with fail
    rw [← HW.out]
    refine (A.out _ b0).mono ?_
    rintro e w1 ⟨rfl, h1⟩
    clear c0 c1 c2 f0 f1 f2 A
    obtain ⟨d0, d1, d2, g0, g1, g2, lt2⟩ := x0.later h1
    go_wp2
    simp [bodyPost, results, Try.results37, go_sem, d0, d1, d2]
    exact Bl.set3 (b0.trans h1) (Nat.le_refl _) _ _ _
  · subst hik
    have A := hideP (fun u (hu : Bl w u) => mAtF R R p n cap f u (h.later hu) i i (by omega) (by omega))
    have e0 : mirM f i i = f i i := by unfold mirM; rw [Nat.max_self, Nat.min_self]
    rw [e0]
    clear h e0
    generalize f i i = x at *
    go_enter Try.func37, Try.ntmps37
    go_wp2_with fail
    rw [← HW.out]
    refine (A.out _ b0).mono ?_
    rintro e w1 ⟨rfl, h1⟩
    clear c0 c1 c2 f0 f1 f2 A
    obtain ⟨d0, d1, d2, g0, g1, g2, lt2⟩ := x0.later h1
    go_wp2
    simp [bodyPost, results, Try.results37, go_sem, d0, d1, d2]
    exact Bl.set3 (b0.trans h1) (Nat.le_refl _) _ _ _
  · have q1 : (k : Int) < (i : Int) := by omega
    have q2 : ¬ (i : Int) < (k : Int) := by omega
    have A := hideP (fun u (hu : Bl w u) => mAtF R R p n cap f u (h.later hu) i k (by omega) (by omega))
    have e0 : mirM f i k = f i k := by unfold mirM; rw [show max i k = i by omega, show min i k = k by omega]
    rw [e0]
    clear h e0
    generalize f i k = x at *
    go_enter Try.func37, Try.ntmps37
    go_wp2_with fail
    rw [← HW.out]
    refine (A.out _ b0).mono ?_
    rintro e w1 ⟨rfl, h1⟩
    clear c0 c1 c2 f0 f1 f2 A
    obtain ⟨d0, d1, d2, g0, g1, g2, lt2⟩ := x0.later h1
    go_wp2
    simp [bodyPost, results, Try.results37, go_sem, d0, d1, d2]
    exact Bl.set3 (b0.trans h1) (Nat.le_refl _) _ _ _
theorem mMirrorF (R : Nat) (p : Option Addr) (n cap : Nat) (f : Nat → Nat → Fr) (w : World) (h : Mx 3 cellsF w R R p n cap f) :
    Calls Try.prog 20 #[mV R R p n cap] w fun e w' => ∃ p' cap', e = .returned (.tuple #[mV R R p' n cap', .bool true]) ∧ (Mx 3 cellsF w' R R p' n cap' (mirM f) ∧ Rw 3 cellsF w' (.slice p' n cap') (mk R R (mirM f)) ∧ Fresh w.heap.size (.slice p' n cap')) ∧ Bl w w' := by
  have hfit := h.fit
  obtain ⟨W, hW⟩ : ∃ W, W = (w.alloc (.cells #[.int .i64 R, .int .i64 R, .slice p n cap] 26)).alloc (.cells #[.int .i64 0, .int .i64 0, .slice none 0 0] 26) := ⟨_, rfl⟩
  have b0 : Bl w W := by rw [hW]; exact ((Bl.refl _).alloc _).alloc _
  have m0 : MBox W w.heap.size R R p n cap := by rw [hW]; exact (MBox.new w _ _ _ _ _ _).later ((Bl.refl _).alloc _)
  have x0 : MBox W (w.heap.size + 1) 0 0 none 0 0 := by rw [hW]; have := MBox.new (w.alloc (.cells #[.int .i64 R, .int .i64 R, .slice p n cap] 26)) 0 0 none 0 0 26; rw [World.size_alloc] at this; exact this
  have hs : W.heap.size = w.heap.size + 1 + 1 := by rw [hW]; simp
  have FI := hideP (fun u (hu : Bl W u) => mFilledF 37 w.heap.size (enters_of Try.func37 (by kernel_rfl) rfl) (mirM f) R R n h.1 h.2.1 u
    (fun i k v hi hk hv => mMirror1F R p n cap f v (h.later (b0.trans (hu.trans hv))) _ (m0.later (hu.trans hv)) i k hi hk))
  have HD := hideP h
  have HW := hideP hW
  clear hW h
  go_enter Try.func20, Try.ntmps20
  go_wp2_with fail
  rw [← HW.out]
  refine (mRightF _ _ _ _ _ _).mono ?_
  rintro e w1 ⟨rfl, h1⟩
  rw [hfit]
  obtain ⟨c0, c1, c2, f0, f1, f2, lt⟩ := m0.later h1
  go_wp2_with fail
  refine (FI.out _ h1).mono ?_
  rintro e w2 ⟨p', cap', rfl, ⟨hR, hF⟩, h2⟩
  have HR := hideP hR
  have HF := hideP (show Fresh (w.heap.size + 1 + 1) (.slice p' n cap') from fun g hg => by have := hF g hg; have := h1.size; omega)
  clear hR hF FI c0 c1 c2 f0 f1 f2
  obtain ⟨c0, c1, c2, f0, f1, f2, lt2⟩ := x0.later (h1.trans h2)
  go_wp2
  simp [bodyPost, results, Try.results20, go_sem, c0, c1, c2]
  have q := ((HR.out.set (p := ⟨w.heap.size + 1, 0, none⟩) (.int .i64 R) HF.out).set (p := ⟨w.heap.size + 1, 1, none⟩) (.int .i64 R) HF.out).set (p := ⟨w.heap.size + 1, 2, none⟩) (.slice p' n cap') HF.out
  refine ⟨p', cap', ⟨rfl, rfl⟩, ⟨⟨HD.out.1, HD.out.2.1, q.q⟩, q, fun g hg => by have := HF.out g hg; omega⟩, Bl.put3 ((b0.trans h1).trans h2) (Nat.le_succ _) _ _ _⟩
theorem mMirrorF_no (R C : Nat) (p : Option Addr) (n cap : Nat) (w : World) (hfit : fitB R C n = true) (hne : R ≠ C) :
    Calls Try.prog 20 #[mV R C p n cap] w fun e w' => e = .returned (.tuple #[mV 0 0 none 0 0, .bool false]) ∧ Bl w w' := by
  obtain ⟨W, hW⟩ : ∃ W, W = (w.alloc (.cells #[.int .i64 R, .int .i64 C, .slice p n cap] 26)).alloc (.cells #[.int .i64 0, .int .i64 0, .slice none 0 0] 26) := ⟨_, rfl⟩
  have b0 : Bl w W := by rw [hW]; exact ((Bl.refl _).alloc _).alloc _
  have m0 : MBox W w.heap.size R C p n cap := by rw [hW]; exact (MBox.new w _ _ _ _ _ _).later ((Bl.refl _).alloc _)
  have x0 : MBox W (w.heap.size + 1) 0 0 none 0 0 := by rw [hW]; have := MBox.new (w.alloc (.cells #[.int .i64 R, .int .i64 C, .slice p n cap] 26)) 0 0 none 0 0 26; rw [World.size_alloc] at this; exact this
  have hne' : ((R : Int) == (C : Int)) = false := by simp; omega
  have HW := hideP hW
  clear hW hne
  go_enter Try.func20, Try.ntmps20
  go_wp2_with fail
  rw [← HW.out]
  refine (mRightF _ _ _ _ _ _).mono ?_
  rintro e w1 ⟨rfl, h1⟩
  rw [hfit]
  obtain ⟨c0, c1, c2, f0, f1, f2, lt⟩ := m0.later h1
  obtain ⟨d0, d1, d2, g0, g1, g2, lt2⟩ := x0.later h1
  go_wp2
  simp [bodyPost, results, Try.results20, go_sem, d0, d1, d2]
  exact Bl.put3 (b0.trans h1) (Nat.le_succ _) _ _ _
end Go.Proofs.Ytafjmogkiohjgaa

/- Contract of tri's Square, of fractions (layer 7). Written by genTr.py. -/
namespace Go.Proofs.Ytafjmogkiohjgaa
open Go.RowKit
set_option linter.unusedSimpArgs false
set_option linter.unusedVariables false

theorem boolF (x : Fr) : ∃ (j : Nat) (y : Bool), (cellsF x)[j]? = some (Value.bool y) := ⟨3 - 1, x.bad, rfl⟩
set_option maxRecDepth 100000 in
set_option maxHeartbeats 2000000 in
theorem tSqF (n : Nat) (p : Option Addr) (N cap : Nat) (f : Nat → Nat → Fr) (w : World) (h : Mx 3 cellsF w n n p N cap f) :
    Calls Try.prog 7 #[mV n n p N cap] w fun e w' => ∃ p' cap', e = .returned (.tuple #[mV n n p' N cap', .bool true]) ∧ (Mx 3 cellsF w' n n p' N cap' (mirM (mulMF n f (fun i k => f k i))) ∧ Fresh w.heap.size (.slice p' N cap')) ∧ Bl w w' := by
  have fm : Try.prog.follows .mixedOrders = true := by kernel_rfl
  have egT := enters_of Try.func9 (by kernel_rfl) rfl
  have egM := enters_of Try.func8 (by kernel_rfl) rfl
  have hsq : sqB n n N = true := by unfold sqB; rw [h.fit]; simp
  obtain ⟨Wa, hW⟩ : ∃ Wa, Wa = (w.alloc (.cells #[.int .i64 n, .int .i64 n, .slice p N cap] 26)).alloc (.cells #[.int .i64 0, .int .i64 0, .slice none 0 0] 26) := ⟨_, rfl⟩
  have b0 : Bl w Wa := by rw [hW]; exact ((Bl.refl _).alloc _).alloc _
  have m0 : MBox Wa w.heap.size n n p N cap := by rw [hW]; exact (MBox.new w _ _ _ _ _ _).later ((Bl.refl _).alloc _)
  have x0 : MBox Wa (w.heap.size + 1) 0 0 none 0 0 := by rw [hW]; have := MBox.new (w.alloc (.cells #[.int .i64 n, .int .i64 n, .slice p N cap] 26)) 0 0 none 0 0 26; rw [World.size_alloc] at this; exact this
  have hs : Wa.heap.size = w.heap.size + 1 + 1 := by rw [hW]; simp
  have HW := hideP hW
  clear hW
  go_enter Try.func7, Try.ntmps7
  go_wp2_with fail
  rw [← HW.out]
  refine (tSquareF _ _ _ _ _ _).mono ?_
  rintro e W ⟨rfl, h1⟩
  rw [hsq]
  clear HW
  replace b0 := b0.trans h1
  replace m0 := m0.later h1
  replace x0 := x0.later h1
  replace hs : w.heap.size + 1 + 1 ≤ W.heap.size := by have := h1.size; omega
  clear h1
  go_wp2_with fail
  refine (wpIn_wide (n := 8)).1 (region_q fm [some 11, some 12, some 13, some 14, some 10, some 15, some 16, some 4, none, some 5] (fun j => j == 6 || j == 9) 8 (by kernel_rfl) (by rfl)
    (fun j v u => match j with | 0 => v = mV n n p N cap | 1 => v = mV n n p N cap | 2 => ∃ q c, v = mV n n q N c ∧ Mx 3 cellsF u n n q N c (fun i k => f k i) | 3 => ∃ q c, v = .tuple #[mV n n q N c, .bool true] ∧ Mx 3 cellsF u n n q N c (mulMF n f (fun i k => f k i)) | 4 => ∃ q c, v = .tuple #[mV n n q N c, .bool true] ∧ Mx 3 cellsF u n n q N c (mulMF n f (fun i k => f k i)) | 5 => ∃ q c, v = mV n n q N c ∧ Mx 3 cellsF u n n q N c (mulMF n f (fun i k => f k i)) | 6 => v = .bool true | 7 => ∃ b, v = .pointer (some ⟨b, 0, none⟩) ∧ W.heap.size ≤ b ∧ MBox u b 0 0 none 0 0 ∧ NoB u b | 9 => v = .bool true | _ => False)
    (by
            intro j v u u' hb h
            split at h <;> first | exact h | (obtain ⟨q, c, e, h1⟩ := h; exact ⟨q, c, e, h1.later hb⟩) | (obtain ⟨b, e, h1, h2, h3⟩ := h; exact ⟨b, e, h1, h2.later hb, h3.later hb h2.lt⟩)) (fun vs u0 u => ∃ b q c, vs 7 = .pointer (some ⟨b, 0, none⟩) ∧ MBox u b n n q N c ∧ Mx 3 cellsF u n n q N c (mulMF n f (fun i k => f k i)) ∧ MBox u (w.heap.size + 1) 0 0 none 0 0 ∧ Bl w u) ?step ?still ?store ?fin)
  case step =>
    intro j o t act u ho hdt hpu hsz hu hfr hin
    have hj : j < 10 := (Array.getElem?_eq_some_iff.1 ho).1
    obtain ⟨c0, c1, c2, _, _, _, _⟩ := m0.later hu
    rcases (by omega : j = 0 ∨ j = 1 ∨ j = 2 ∨ j = 3 ∨ j = 4 ∨ j = 5 ∨ j = 6 ∨ j = 7 ∨ j = 8 ∨ j = 9) with rfl | rfl | rfl | rfl | rfl | rfl | rfl | rfl | rfl | rfl
    · simp only [List.getElem?_toArray, List.getElem?_cons_zero, List.getElem?_cons_succ, Option.some.injEq] at ho
      subst ho
      obtain rfl := Option.some.inj hdt
      have i1 : act.eval (.tmp (1 : Nat)) = .pointer (some ⟨w.heap.size, 0, none⟩) := hfr 1 (by decide)
      exact plain_wp (by intro c h; cases h) (fun _ _ => trivial) (by simp only [execOp, i1, evalC, evalF, evalG]; simp [go_sem, c0, c1, c2]) ⟨_, rfl, rfl, Bl.refl _⟩
    · simp only [List.getElem?_toArray, List.getElem?_cons_zero, List.getElem?_cons_succ, Option.some.injEq] at ho
      subst ho
      obtain rfl := Option.some.inj hdt
      have i1 : act.eval (.tmp (1 : Nat)) = .pointer (some ⟨w.heap.size, 0, none⟩) := hfr 1 (by decide)
      exact plain_wp (by intro c h; cases h) (fun _ _ => trivial) (by simp only [execOp, i1, evalC, evalF, evalG]; simp [go_sem, c0, c1, c2]) ⟨_, rfl, rfl, Bl.refl _⟩
    · simp only [List.getElem?_toArray, List.getElem?_cons_zero, List.getElem?_cons_succ, Option.some.injEq] at ho
      subst ho
      obtain rfl := Option.some.inj hdt
      have i12 : (act.eval (.tmp (12 : Nat))) = mV n n p N cap := hin ⟨1, .data⟩ (by simp) rfl 12 rfl
      refine enter_wp 9 #[mV n n p N cap] (by intro c h; cases h) (fun _ _ => trivial) (by simp only [execOp, evalC, evalF, evalG, resolve, i12, List.map_toArray, List.map_cons, List.map_nil]; simp [invoke, egT, Result.andThen, go_sem]) (by intro h; cases h) (callsIn_wide.2 (mTurnF n n p N cap f u (h.later (b0.trans hu)))) ?_
      rintro e w' ⟨q, c, rfl, ⟨hM, _, _⟩, hb⟩
      exact ⟨_, rfl, _, rfl, ⟨q, c, rfl, hM⟩, hb⟩
    · simp only [List.getElem?_toArray, List.getElem?_cons_zero, List.getElem?_cons_succ, Option.some.injEq] at ho
      subst ho
      obtain rfl := Option.some.inj hdt
      have i11 : (act.eval (.tmp (11 : Nat))) = mV n n p N cap := hin ⟨0, .data⟩ (by simp) rfl 11 rfl
      have i13 : ∃ q c, (act.eval (.tmp (13 : Nat))) = mV n n q N c ∧ Mx 3 cellsF u n n q N c (fun i k => f k i) := hin ⟨2, .data⟩ (by simp) rfl 13 rfl
      obtain ⟨q0, c0', e1, hq⟩ := i13
      refine enter_wp 8 #[mV n n p N cap, mV n n q0 N c0'] (by intro c h; cases h) (fun _ _ => trivial) (by simp only [execOp, evalC, evalF, evalG, resolve, i11, e1, List.map_toArray, List.map_cons, List.map_nil]; simp [invoke, egM, Result.andThen, go_sem]) (by intro h; cases h) (callsIn_wide.2 (mMulF n n n p N cap f q0 N c0' (fun i k => f k i) N u (h.later (b0.trans hu)) hq h.2.1)) ?_
      rintro e w' ⟨q, c, rfl, ⟨hM, _, _⟩, hb⟩
      exact ⟨_, rfl, _, rfl, ⟨q, c, rfl, hM⟩, hb⟩
    · simp only [List.getElem?_toArray, List.getElem?_cons_zero, List.getElem?_cons_succ, Option.some.injEq] at ho
      subst ho
      obtain rfl := Option.some.inj hdt
      have i14 : ∃ q c, (act.eval (.tmp (14 : Nat))) = .tuple #[mV n n q N c, .bool true] ∧ Mx 3 cellsF u n n q N c (mulMF n f (fun i k => f k i)) := hin ⟨3, .data⟩ (by simp) rfl 14 rfl
      obtain ⟨q0, c0', e1, hq⟩ := i14
      exact plain_wp (by intro c h; cases h) (fun _ _ => trivial) (by simp only [execOp, e1]; simp [go_sem]) ⟨_, rfl, ⟨q0, c0', rfl, hq⟩, Bl.refl _⟩
    · simp only [List.getElem?_toArray, List.getElem?_cons_zero, List.getElem?_cons_succ, Option.some.injEq] at ho
      subst ho
      obtain rfl := Option.some.inj hdt
      have i10 : ∃ q c, (act.eval (.tmp (10 : Nat))) = .tuple #[mV n n q N c, .bool true] ∧ Mx 3 cellsF u n n q N c (mulMF n f (fun i k => f k i)) := hin ⟨4, .data⟩ (by simp) rfl 10 rfl
      obtain ⟨q0, c0', e1, hq⟩ := i10
      exact plain_wp (by intro c h; cases h) (fun _ _ => trivial) (by simp only [execOp, e1]; simp [go_sem]) ⟨_, rfl, ⟨q0, c0', rfl, hq⟩, Bl.refl _⟩
    · cases hpu
    · simp only [List.getElem?_toArray, List.getElem?_cons_zero, List.getElem?_cons_succ, Option.some.injEq] at ho
      subst ho
      obtain rfl := Option.some.inj hdt
      exact plain_wp (by intro c h; cases h) (fun _ _ => trivial) (w' := u.alloc (.cells #[.int .i64 0, .int .i64 0, .slice none 0 0] 26)) (v := .pointer (some ⟨u.heap.size, 0, none⟩)) (by simp only [execOp]; simp [go_sem]) ⟨_, rfl, ⟨u.heap.size, rfl, hu.size, MBox.new u 0 0 none 0 0 _, noB_new u _⟩, (Bl.refl _).alloc _⟩
    · simp only [List.getElem?_toArray, List.getElem?_cons_zero, List.getElem?_cons_succ, Option.some.injEq] at ho
      subst ho
      cases hdt
    · cases hpu
  case still =>
    intro j o t act u0 u ho hdt hpu hsz hu hfr hin
    have hj : j < 10 := (Array.getElem?_eq_some_iff.1 ho).1
    obtain ⟨c0, c1, c2, _, _, _, _⟩ := m0.later hu
    rcases (by omega : j = 0 ∨ j = 1 ∨ j = 2 ∨ j = 3 ∨ j = 4 ∨ j = 5 ∨ j = 6 ∨ j = 7 ∨ j = 8 ∨ j = 9) with rfl | rfl | rfl | rfl | rfl | rfl | rfl | rfl | rfl | rfl
    · cases hpu
    · cases hpu
    · cases hpu
    · cases hpu
    · cases hpu
    · cases hpu
    · simp only [List.getElem?_toArray, List.getElem?_cons_zero, List.getElem?_cons_succ, Option.some.injEq] at ho
      subst ho
      obtain rfl := Option.some.inj hdt
      have i10 : ∃ q c, (act.eval (.tmp (10 : Nat))) = .tuple #[mV n n q N c, .bool true] ∧ Mx 3 cellsF u0 n n q N c (mulMF n f (fun i k => f k i)) := hin ⟨4, .data⟩ (by simp) rfl 10 rfl
      obtain ⟨q0, c0', e1, hq⟩ := i10
      exact plain_wp (by intro c h; cases h) (fun _ _ => trivial) (by simp only [execOp, e1]; simp [go_sem]) ⟨_, rfl, rfl, rfl⟩
    · cases hpu
    · cases hpu
    · simp only [List.getElem?_toArray, List.getElem?_cons_zero, List.getElem?_cons_succ, Option.some.injEq] at ho
      subst ho
      obtain rfl := Option.some.inj hdt
      have i16 : (act.eval (.tmp (16 : Nat))) = .bool true := hin ⟨6, .data⟩ (by simp) rfl 16 rfl
      exact plain_wp (by intro c h; cases h) (fun _ _ => trivial) (by simp only [execOp, i16, evalC, evalF, evalG]; simp [go_sem]) ⟨_, rfl, rfl, rfl⟩
  case store =>
    intro o act u vs ho hsz hu hfr hin
    simp only [List.getElem?_toArray, List.getElem?_cons_zero, List.getElem?_cons_succ, Option.some.injEq] at ho
    subst ho
    obtain ⟨i4, k4⟩ : act.eval (.tmp (4 : Nat)) = vs 7 ∧ (∃ b, (vs 7) = .pointer (some ⟨b, 0, none⟩) ∧ W.heap.size ≤ b ∧ MBox u b 0 0 none 0 0 ∧ NoB u b) := hin 7 4 rfl rfl
    obtain ⟨i15, k15⟩ : act.eval (.tmp (15 : Nat)) = vs 5 ∧ (∃ q c, (vs 5) = mV n n q N c ∧ Mx 3 cellsF u n n q N c (mulMF n f (fun i k => f k i))) := hin 5 15 rfl rfl
    obtain ⟨b, e1, hb, bx, nb⟩ := k4
    obtain ⟨q0, c0', e2, hq⟩ := k15
    rw [e1] at i4
    rw [e2] at i15
    obtain ⟨c0, c1, c2, f0, f1, f2, ltb⟩ := id bx
    exact skip_wp (by intro c h; cases h) (fun _ _ => trivial) (by simp only [execOp, i4, i15]; simp [go_sem, c0, c1, c2, f0, f1, f2]) ⟨rfl, b, q0, c0', e1, bx.fill _ _ _ _ _, mx_ne7 hq (noB_mx boolF hq nb) _ _ _, mbox_set7 (mbox_set7 (mbox_set7 (x0.later hu) (by omega) _ _) (by omega) _ _) (by omega) _ _, Bl.put3 (b0.trans hu) (by have := b0.size; omega) _ _ _⟩
  case fin =>
    intro vs vb u0 u hu hin hps
    have a0 := hin 0 11 rfl
    have a1 := hin 1 12 rfl
    have a2 := hin 2 13 rfl
    have a3 := hin 3 14 rfl
    have a4 := hin 4 10 rfl
    have a5 := hin 5 15 rfl
    have a6 := hin 6 16 rfl
    have a7 := hin 7 4 rfl
    have a9 := hin 9 5 rfl
    simp only [putL, Act.put, List.setIfInBounds_toArray, List.set_cons_zero, List.set_cons_succ, Nat.zero_add, Nat.reduceAdd, Nat.reduceBEq, Bool.or_false, Bool.or_true, Bool.false_or, Bool.true_or, Bool.false_eq_true, if_false, if_true, reduceIte, Nat.reduceEqDiff, beq_self_eq_true, Bool.or_self] at a0 a1 a2 a3 a4 a5 a6 a7 a9 ⊢
    rw [if_pos (by decide)] at hps
    simp only [a0, a1, a6, a9]
    obtain ⟨b, q, c, e7, bx, hM, xz, hbw⟩ := hps
    simp only [e7]
    clear a2 a3 a4 a5 a7
    have MI := hideP (fun u' (hu' : Bl u u') => mMirrorF n q N c _ u' (hM.later hu'))
    obtain ⟨c0, c1, c2, f0, f1, f2, ltb⟩ := bx
    go_wp2_with fail
    refine (MI.out _ (Bl.refl _)).mono ?_
    rintro e w3 ⟨p', cap', rfl, ⟨hR, _, hF⟩, h3⟩
    have HR := hideP hR
    have HF := hideP (show Fresh (w.heap.size + 1 + 1) (.slice p' N cap') from fun g hg => by have := hF g hg; have := xz.lt; omega)
    clear hR hF MI c0 c1 c2 f0 f1 f2
    obtain ⟨c0, c1, c2, f0, f1, f2, lt2⟩ := xz.later h3
    go_wp2
    simp [bodyPost, results, Try.results7, go_sem, c0, c1, c2]
    exact ⟨p', cap', ⟨rfl, rfl⟩, ⟨mx_put7 HR.out HF.out _ _ _, fun g hg => by have := HF.out g hg; omega⟩, Bl.put3 (hbw.trans h3) (Nat.le_succ _) _ _ _⟩
theorem tSqF_no (r c : Int) (p : Option Addr) (n cap : Nat) (w : World) (hsq : sqB r c n = false) :
    Calls Try.prog 7 #[mV r c p n cap] w fun e w' => e = .returned (.tuple #[mV 0 0 none 0 0, .bool false]) ∧ Bl w w' := by
  obtain ⟨W, hW⟩ : ∃ W, W = (w.alloc (.cells #[.int .i64 r, .int .i64 c, .slice p n cap] 26)).alloc (.cells #[.int .i64 0, .int .i64 0, .slice none 0 0] 26) := ⟨_, rfl⟩
  have b0 : Bl w W := by rw [hW]; exact ((Bl.refl _).alloc _).alloc _
  have x0 : MBox W (w.heap.size + 1) 0 0 none 0 0 := by rw [hW]; have := MBox.new (w.alloc (.cells #[.int .i64 r, .int .i64 c, .slice p n cap] 26)) 0 0 none 0 0 26; rw [World.size_alloc] at this; exact this
  have HW := hideP hW
  clear hW
  go_enter Try.func7, Try.ntmps7
  go_wp2_with fail
  rw [← HW.out]
  refine (tSquareF _ _ _ _ _ _).mono ?_
  rintro e w1 ⟨rfl, h1⟩
  rw [hsq]
  obtain ⟨c0, c1, c2, f0, f1, f2, lt2⟩ := x0.later h1
  go_wp2
  simp [bodyPost, results, Try.results7, go_sem, c0, c1, c2]
  exact Bl.put3 (b0.trans h1) (Nat.le_succ _) _ _ _
end Go.Proofs.Ytafjmogkiohjgaa

/- The square of the root of a square, of fractions, where no number is Bad (layer 7, TriRound). Mathematics alone. -/
namespace Go.Proofs.Ytafjmogkiohjgaa
open Go.RowKit
set_option linter.unusedSimpArgs false
set_option linter.unusedVariables false

theorem add_fine7 (a b : Fr) : fineR (addR a b) = !(addR a b).bad := by
  unfold addR
  split
  · rw [ofQ_fine, ofQ_bad, Bool.not_not]
  · rfl
theorem fold_fine7 : ∀ (xs : List Fr) (a : Fr), fineR a = !a.bad → fineR (xs.foldl addR a) = !(xs.foldl addR a).bad
  | [], a, h => h
  | x :: xs, a, _ => fold_fine7 xs (addR a x) (add_fine7 a x)
theorem dot_fine7 (xs ys : List Fr) : fineR (dotF xs ys) = !(dotF xs ys).bad := fold_fine7 _ _ rfl
theorem mulT7 (n : Nat) (S : Nat → Nat → Fr) (i k : Nat) : mulMF n S (fun i k => S k i) i k = dotF (rowM n S i) (rowM n S k) := rfl
theorem round7 {n : Nat} {M : Nat → Nat → Fr} {i k : Nat} (hi : i < n) (hk : k < n)
    (h : (mirM (mulMF n (triT (rootVF (mirM M)) (wholeF 0) n n) (fun i k => triT (rootVF (mirM M)) (wholeF 0) n n k i)) i k).bad = false) :
    mirM (mulMF n (triT (rootVF (mirM M)) (wholeF 0) n n) (fun i k => triT (rootVF (mirM M)) (wholeF 0) n n k i)) i k = mirM M i k := by
  unfold mirM at h ⊢
  rw [mulT7] at h ⊢
  obtain ⟨a, ha⟩ : ∃ a, a = max i k := ⟨_, rfl⟩
  obtain ⟨b, hb⟩ : ∃ b, b = min i k := ⟨_, rfl⟩
  have h1 : b ≤ a := by omega
  have h2 : a < n := by omega
  rw [← ha, ← hb] at h ⊢
  obtain ⟨s, hs⟩ : ∃ s, s = rootTo subR divR rootR dotF (wholeF 0) (mirM M) n := ⟨_, rfl⟩
  have hr : ∀ i, i < n → rowM n (triT (rootVF (fun i k => M (max i k) (min i k))) (wholeF 0) n n) i = rowM n s i := fun i hi => rowM_congr7 fun j _ => by
    rw [rootVF_G, triT_root _ _ _ _ _ _ _ _ (Nat.le_refl _) _ _ hi, hs]
    rfl
  rw [hr a h2, hr b (by omega)] at h ⊢
  rw [root_square (z := wholeF 0) (show toQ (wholeF 0) = 0 from new0_q) hs (by omega) h1 (by rw [dot_fine7, h]; rfl)]
  unfold mirM
  rw [Nat.max_eq_left h1, Nat.min_eq_right h1]
end Go.Proofs.Ytafjmogkiohjgaa

/- HouseExact, of fractions: where no number of a triangle's square is Bad, it is the square of what was folded. Mathematics alone. -/
namespace Go.Proofs.Ytafjmogkiohjgaa
open Go.RowKit
set_option linter.unusedSimpArgs false
set_option linter.unusedVariables false

theorem foldAll_H {α : Type} (K : Kd α) (low : α → Bool) (R C : Nat) (f : Nat → Nat → α) {i : Nat} (hi : i < R) (j : Nat) :
    signsH K (fun j => low (foldL K low C f R j j)) (foldL K low C f R) i j = foldH K R C (fun k => low (foldL K low C f k k k)) (fun j => low (foldL K low C f R j j)) f i j := by
  unfold foldH
  by_cases h : i < j
  · rw [if_pos h]
    unfold signsH
    rw [if_neg (by omega), foldL_to]
    exact foldTo_zero K C _ f hi h
  · rw [if_neg h, ← foldL_to]
theorem rowM_tail {α : Type} (n : Nat) (S : Nat → Nat → α) (i : Nat) : rowM n S i = tailH n 0 (S i) := by simp [rowM, tailH]
theorem dT_zero_k (m : Nat) (f g : Nat → Rat) : dT m 0 f g = sumH m fun j => f j * g j := by
  unfold dT
  rw [Nat.sub_zero]
  exact sumH_congr _ fun j _ => by rw [Nat.zero_add]
theorem sumH_mulc (m : Nat) (f g : Nat → Rat) : sumH m (fun j => f j * g j) = sumH m (fun j => g j * f j) := sumH_congr _ fun j _ => Rat.mul_comm _ _
theorem exact8 {R C : Nat} (hRC : R ≤ C) (hC : C ≤ 16) {a : Nat → Nat → Int} (sm : Sm2 20 R C a)
    (hall : ∀ i k, i < R → k < R → (mirM (mulMF R (foldF R C fun i k => itF (a i k)) (fun i k => foldF R C (fun i k => itF (a i k)) k i)) i k).bad = false)
    {i k : Nat} (hi : i < R) (hk : k < R) :
    mirM (mulMF R (foldF R C fun i k => itF (a i k)) (fun i k => foldF R C (fun i k => itF (a i k)) k i)) i k = mulMF C (fun i k => itF (a i k)) (fun i k => itF (a k i)) i k := by
  obtain ⟨S, hS⟩ : ∃ S, S = foldF R C fun i k => itF (a i k) := ⟨_, rfl⟩
  rw [← hS] at hall ⊢
  have fine : ∀ i, i < R → ∀ c, c < R → fineR (S i c) = true := fun i hi c hc => by
    have h := hall i i hi hi
    unfold mirM at h
    rw [Nat.max_self, Nat.min_self, mulT7] at h
    have hf : fineR (dotF (tailH R 0 (S i)) (tailH R 0 (S i))) = true := by rw [← rowM_tail, dot_fine7, h]; rfl
    exact ((dot_tail hf).1 c (Nat.zero_le _) hc).1
  have hSH : ∀ i c, i < R → S i c = foldH kdF R C (fun k => lowF (foldL kdF lowF C (fun i k => itF (a i k)) k k k)) (fun j => lowF (foldL kdF lowF C (fun i k => itF (a i k)) R j j)) (fun i k => itF (a i k)) i c := fun i c hi => by
    rw [hS]
    exact foldAll_H kdF lowF R C _ hi c
  have SQ := fold_all hRC (fun k => lowF (foldL kdF lowF C (fun i k => itF (a i k)) k k k)) (fun j => lowF (foldL kdF lowF C (fun i k => itF (a i k)) R j j)) (fun i k => itF (a i k)) (fun i j hi hj => by rw [← hSH i j hi]; exact fine i hi j (by omega))
  have SQ' : ∀ i j, i < R → j < R → sumH R (fun c => toQ (S i c) * toQ (S j c)) = sumH C fun c => toQ (itF (a i c)) * toQ (itF (a j c)) := fun i j hi hj => by
    rw [← SQ i j hi hj]
    exact sumH_congr _ fun c _ => by rw [hSH i c hi, hSH j c hj]
  have hq : ∀ i k, i < R → k < R → fineR (dotF (tailH C 0 fun c => itF (a i c)) (tailH C 0 fun c => itF (a k c))) = true := fun i k hi hk => by
    have e : ∀ i, (tailH C 0 fun c => itF (a i c)) = (rowM C a i).map itF := fun i => by simp [tailH, rowM]
    rw [e, e]
    have s1 := row_sml sm hi
    have s2 := row_sml sm hk
    rw [dot_it6 s1 s2 (by omega) (by omega) (by rw [rowM_len]; omega) (by omega)]
    have bd := dotI_bound s1 s2 (by omega) (by omega) (by rw [rowM_len]; omega)
    exact fine_it ⟨by omega, by omega⟩
  have key : ∀ x y, x < R → y < R → fineR (dotF (tailH R 0 (S x)) (tailH R 0 (S y))) = true → dotF (tailH R 0 (S x)) (tailH R 0 (S y)) = dotF (tailH C 0 fun c => itF (a x c)) (tailH C 0 fun c => itF (a y c)) := fun x y hx hy hf =>
    fr_eq hf (hq x y hx hy) (by
      rw [(dot_tail hf).2, (dot_tail (hq x y hx hy)).2, dT_zero_k, dT_zero_k]
      exact SQ' x y hx hy)
  have h := hall i k hi hk
  unfold mirM at h ⊢
  rw [mulT7] at h ⊢
  rw [rowM_tail, rowM_tail] at h ⊢
  have hf : fineR (dotF (tailH R 0 (S (max i k))) (tailH R 0 (S (min i k)))) = true := by
    have e := dot_fine7 (tailH R 0 (S (max i k))) (tailH R 0 (S (min i k)))
    rw [e, h]; rfl
  have h1 : max i k < R := by omega
  have h2 : min i k < R := by omega
  rw [key _ _ h1 h2 hf]
  show _ = dotF (rowM C (fun i k => itF (a i k)) i) (rowM C (fun i k => itF (a i k)) k)
  rw [rowM_tail, rowM_tail]
  by_cases hik : k ≤ i
  · rw [Nat.max_eq_left hik, Nat.min_eq_right hik]
  · rw [Nat.max_eq_right (by omega), Nat.min_eq_left (by omega)]
    exact fr_eq (hq k i hk hi) (hq i k hi hk) (by
      rw [(dot_tail (hq k i hk hi)).2, (dot_tail (hq i k hi hk)).2, dT_comm])
end Go.Proofs.Ytafjmogkiohjgaa
