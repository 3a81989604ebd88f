/- RootStill's mathematics: an update by noughts, of whole numbers as points. -/
import Derived.Test.YtljmggemdkfbiaaGreatRoQ
import Derived.Test.YtljmggemdkfbiaaGreatHsY
import Derived.Test.YtljmggemdkfbiaaGreatVeL
import Derived.Test.YtljmggemdkfbiaaGreatTrG
namespace Go.Proofs.YtljmggemdkfbiaaGreat
open Go.RowKit
set_option linter.unusedSimpArgs false
set_option linter.unusedVariables false

theorem wn_of {a : Int} (h : -1000 ≤ a ∧ a ≤ 1000) : Wn a := by unfold Wn; omega
theorem wholeN_it {a : Int} (h : -1000 ≤ a ∧ a ≤ 1000) : wholeN a = itN a := by
  have := wholesN_it (B := 1000) [a] (by intro x hx; simp at hx; omega) (by omega)
  simpa using this
theorem still_quot : ∀ r : Fin 6, 1 ≤ r.val → rootE (divE (itN r.val) (itN r.val)) = itN 1 ∧ divE (itN 0) (rootE (mulE (itN r.val) (itN r.val))) = itN 0 ∧ divE (itN 0) (itN r.val) = itN 0 := by
  rw [rootE_fast]
  intro r hr
  rcases (by omega : r.val = 1 ∨ r.val = 2 ∨ r.val = 3 ∨ r.val = 4 ∨ r.val = 5) with h | h | h | h | h <;> rw [h] <;> refine ⟨?_, ?_, ?_⟩ <;> kernel_rfl
theorem still_r {r : Int} (h1 : 1 ≤ r) (h5 : r ≤ 5) : rootE (divE (itN r) (itN r)) = itN 1 ∧ divE (itN 0) (rootE (mulE (itN r) (itN r))) = itN 0 ∧ divE (itN 0) (itN r) = itN 0 := by
  obtain ⟨n, rfl⟩ := Int.eq_ofNat_of_zero_le (show 0 ≤ r by omega)
  exact still_quot ⟨n, by omega⟩ (show 1 ≤ n by omega)
/-- The dot of points with noughts. -/
theorem dot_nought {n : Nat} {v : Nat → Int} (hv : ∀ i, i < n → -5 ≤ v i ∧ v i ≤ 5) (hn : n ≤ 16) : dotN ((linJ n v).map itN) ((linJ n fun _ => (0 : Int)).map itN) = itN 0 := by
  rw [dotN_it (xs := linJ n v) (ys := linJ n fun _ => (0 : Int)) (by intro x hx; obtain ⟨i, hi, rfl⟩ := List.mem_map.1 hx; have := hv i (by simpa using hi); omega) (by intro x hx; obtain ⟨i, hi, rfl⟩ := List.mem_map.1 hx; omega) (by simp [linJ]; omega)]
  congr 1
  have : ∀ (l : List Nat), dotI (l.map v) (l.map fun _ => (0 : Int)) = 0 := by
    intro l
    induction l with
    | nil => rfl
    | cons a l ih =>
      have e : dotI ((a :: l).map v) ((a :: l).map fun _ => (0 : Int)) = v a * 0 + dotI (l.map v) (l.map fun _ => (0 : Int)) := by simp [dotI]
      rw [e, ih]
      omega
  exact this _
theorem dot_nought' {n : Nat} {v : Nat → Int} (hv : ∀ i, i < n → -5 ≤ v i ∧ v i ≤ 5) (hn : n ≤ 16) : dotN ((linJ n fun _ => (0 : Int)).map itN) ((linJ n v).map itN) = itN 0 := by
  rw [dotN_it (ys := linJ n v) (xs := linJ n fun _ => (0 : Int)) (by intro x hx; obtain ⟨i, hi, rfl⟩ := List.mem_map.1 hx; omega) (by intro x hx; obtain ⟨i, hi, rfl⟩ := List.mem_map.1 hx; have := hv i (by simpa using hi); omega) (by simp [linJ]; omega)]
  congr 1
  have : ∀ (l : List Nat), dotI (l.map fun _ => (0 : Int)) (l.map v) = 0 := by
    intro l
    induction l with
    | nil => rfl
    | cons a l ih =>
      have e : dotI ((a :: l).map fun _ => (0 : Int)) ((a :: l).map v) = 0 * v a + dotI (l.map fun _ => (0 : Int)) (l.map v) := by simp [dotI]
      rw [e, ih]
      omega
  exact this _
/-- What RootStill asks of the mathematics. -/
structure StillO (m : Nat) (S : Nat → Nat → En) (x : Nat → En) (r z : En) : Prop where
  s : ∀ i k, i < m → k < m → (runO kdN m S (fun _ => wholeN 0) r m).s i k = S i k
  a : (runO kdN m S (fun _ => wholeN 0) r m).a = r
  surp : surpJ kdN m x (fun _ => wholeN 0) z = z
  x : ∀ i, i < m → addE (x i) (mulE (divE ((runO kdN m S (fun _ => wholeN 0) r m).e i) (runO kdN m S (fun _ => wholeN 0) r m).a) (surpJ kdN m x (fun _ => wholeN 0) z)) = x i
theorem stillO {m : Nat} {s : Nat → Nat → Int} {x : Nat → Int} {r z : Int} (hm : m ≤ 3) (hs : ∀ i k, i < m → k < m → -5 ≤ s i k ∧ s i k ≤ 5) (hx : ∀ i, i < m → -5 ≤ x i ∧ x i ≤ 5) (h1 : 1 ≤ r) (h5 : r ≤ 5) (z1 : -5 ≤ z) (z5 : z ≤ 5)
    {S : Nat → Nat → En} {X : Nat → En} (hS : ∀ i k, i < m → k < m → S i k = itN (s i k)) (hX : ∀ i, i < m → X i = itN (x i)) : StillO m S X (itN r) (itN z) := by
  have hz0 : wholeN 0 = itN 0 := wholeN_it (by omega)
  obtain ⟨q1, q2, q3⟩ := still_r h1 h5
  have m00 : mulE (itN 0) (itN 0) = itN 0 := by have := mulN_it (a := 0) (b := 0) (wn_of (by omega)) (wn_of (by omega)) (wn_of (by omega)); simpa using this
  have ar0 : addE (itN r) (itN 0) = itN r := by have := addN_it (a := r) (b := 0) (wn_of (by omega)) (wn_of (by omega)) (wn_of (by omega)); simpa using this
  have a00 : addE (itN 0) (itN 0) = itN 0 := by have := addN_it (a := 0) (b := 0) (wn_of (by omega)) (wn_of (by omega)) (wn_of (by omega)); simpa using this
  have hw : ∀ j, j < m → wO kdN m S (fun _ => wholeN 0) j = itN 0 := by
    intro j hj
    show dotN (rowM m (fun i k => S k i) j) (linJ m fun _ => wholeN 0) = itN 0
    have e1 : rowM m (fun i k => S k i) j = (linJ m fun k => s k j).map itN := by
      unfold rowM linJ
      rw [List.map_map]
      exact List.map_congr_left fun k hk => hS k j (by simpa using hk) hj
    have e2 : (linJ m fun _ => wholeN 0) = (linJ m fun _ => (0 : Int)).map itN := by
      unfold linJ
      rw [List.map_map]
      exact List.map_congr_left fun k hk => hz0
    rw [e1, e2]
    exact dot_nought (fun i hi => hs i j hi hj) (by omega)
  have run : ∀ t, t ≤ m → (∀ i k, i < m → k < m → (runO kdN m S (fun _ => wholeN 0) (itN r) t).s i k = S i k) ∧ (∀ i, (runO kdN m S (fun _ => wholeN 0) (itN r) t).e i = itN 0) ∧ (runO kdN m S (fun _ => wholeN 0) (itN r) t).a = itN r := by
    intro t
    induction t with
    | zero => exact fun _ => ⟨fun _ _ _ _ => rfl, fun _ => hz0, rfl⟩
    | succ t ih =>
      intro ht
      obtain ⟨i1, i2, i3⟩ := ih (by omega)
      have hj : m - 1 - t < m := by omega
      have hb : bO kdN (runO kdN m S (fun _ => wholeN 0) (itN r) t).a (itN 0) = itN r := by
        rw [i3]
        show addE (itN r) (mulE (itN 0) (itN 0)) = itN r
        rw [m00, ar0]
      refine ⟨fun i k hi hk => ?_, fun i => ?_, ?_⟩
      · show partS kdN (m - 1 - t) m (wO kdN m S (fun _ => wholeN 0) (m - 1 - t)) (runO kdN m S (fun _ => wholeN 0) (itN r) t) i k = S i k
        unfold partS
        split
        · rename_i h
          rw [hw _ hj]
          unfold sO dO cO
          rw [hb, i3, i2, i1 i _ hi hj, ← h.1]
          show subE (mulE (S i k) (rootE (divE (itN r) (itN r)))) (mulE (itN 0) (divE (itN 0) (rootE (mulE (itN r) (itN r))))) = S i k
          rw [q1, q2, m00, hS i k hi hk]
          have hb5 := hs i k hi hk
          have e1 : mulE (itN (s i k)) (itN 1) = itN (s i k) := by have := mulN_it (a := s i k) (b := 1) (wn_of (by omega)) (wn_of (by omega)) (wn_of (by omega)); simpa using this
          rw [e1]
          have := subN_it (a := s i k) (b := 0) (wn_of (by omega)) (wn_of (by omega)) (wn_of (by omega))
          simpa using this
        · exact i1 i k hi hk
      · show partE kdN (m - 1 - t) m (wO kdN m S (fun _ => wholeN 0) (m - 1 - t)) (runO kdN m S (fun _ => wholeN 0) (itN r) t) i = itN 0
        unfold partE
        split
        · rename_i h
          rw [hw _ hj, i2, i1 i _ h.2 hj, hS i _ h.2 hj]
          have hb5 := hs i _ h.2 hj
          show addE (itN 0) (mulE (itN (s i (m - 1 - t))) (itN 0)) = itN 0
          have e1 : mulE (itN (s i (m - 1 - t))) (itN 0) = itN 0 := by have := mulN_it (a := s i (m - 1 - t)) (b := 0) (wn_of (by omega)) (wn_of (by omega)) (wn_of (by omega)); simpa using this
          rw [e1, a00]
        · exact i2 i
      · show bO kdN (runO kdN m S (fun _ => wholeN 0) (itN r) t).a (wO kdN m S (fun _ => wholeN 0) (m - 1 - t)) = itN r
        rw [hw _ hj, hb]
  obtain ⟨r1, r2, r3⟩ := run m (Nat.le_refl _)
  have hsp : surpJ kdN m X (fun _ => wholeN 0) (itN z) = itN z := by
    show subE (itN z) (dotN (linJ m fun _ => wholeN 0) (linJ m X)) = itN z
    have e1 : linJ m X = (linJ m x).map itN := by
      unfold linJ
      rw [List.map_map]
      exact List.map_congr_left fun k hk => hX k (by simpa using hk)
    have e2 : (linJ m fun _ => wholeN 0) = (linJ m fun _ => (0 : Int)).map itN := by
      unfold linJ
      rw [List.map_map]
      exact List.map_congr_left fun k hk => hz0
    rw [e1, e2, dot_nought' hx (by omega)]
    have := subN_it (a := z) (b := 0) (wn_of (by omega)) (wn_of (by omega)) (wn_of (by omega))
    simpa using this
  refine ⟨r1, r3, hsp, fun i hi => ?_⟩
  rw [hsp, r3, r2, q3, hX i hi]
  have hb5 := hx i hi
  have e1 : mulE (itN 0) (itN z) = itN 0 := by have := mulN_it (a := 0) (b := z) (wn_of (by omega)) (wn_of (by omega)) (wn_of (by omega)); simpa using this
  rw [e1]
  have := addN_it (a := x i) (b := 0) (wn_of (by omega)) (wn_of (by omega)) (wn_of (by omega))
  simpa using this
end Go.Proofs.YtljmggemdkfbiaaGreat
