/- A tick of the unit, and of no noise, changes nothing, in fractions; a measurement of nothing neither. Conditions: none (every input). -/
import Derived.Test.YthnadgbloamlaaaJC
import Derived.Test.YthnadgbloamlaaaJA
import Derived.Test.YthnadgbloamlaaaJB
import Derived.Laws.EntriesVeiled
import Derived.Test.YthnadgbloamlaaaJD
import Derived.ProofKit
import Derived.OpenShut
import Derived.Lib.SmallJoins
import Derived.Carry
/- Roots of squares, and what is solved, of lower triangles (layer 7). Mathematics alone. -/
namespace Go.Proofs.Ythnadgbloamlaaa
open Go.RowKit
set_option linter.unusedSimpArgs false
set_option linter.unusedVariables false

theorem root_it {x : Int} (h0 : 0 ≤ x) (h1 : x ≤ 32768) : rootR (itF (x * x)) = itF x := by
  have hw : Wh x := ⟨by omega, by omega⟩
  have hb := mul_bound (A := 32768) (B := 32768) (a := x) (b := x) ⟨by omega, h1⟩ ⟨by omega, h1⟩
  have hm := mul_it hw hw (show Wh (x * x) from ⟨by omega, by omega⟩)
  rw [← hm]
  have := rootR_sq (n := x) (d := 1) (fine_it hw) (by omega) h1 (by decide)
  unfold itF
  rw [this]
  congr 1
  omega
theorem div_it {x y : Int} (hx : Wh x) (hy : Wh y) (hxy : Wh (x * y)) (h0 : y ≠ 0) : divR (itF (x * y)) (itF y) = itF x := by
  refine toQ_div (fine_it hxy) (fine_it hy) h0 (toQ (itF x)) ?_ _ (fine_it hx) rfl
  unfold toQ itF
  rw [Rat.divInt_mul_divInt, Int.one_mul]
/-- A lower triangle. -/
def Low {α : Type} (z : α) (s : Nat → Nat → α) : Prop := ∀ i k, i < k → s i k = z
/-- Its square, below the diagonal. -/
theorem mulI_low {s : Nat → Nat → Int} (h : Low 0 s) (i k : Nat) : ∀ M, k < M → mulI M s (fun i k => s k i) i k = mulI k s (fun i k => s k i) i k + s i k * s k k
  | 0, hk => by omega
  | M + 1, hk => by
    rw [mulI_succ]
    by_cases e : k = M
    · subst e; rfl
    · rw [mulI_low h i k M (by omega), h k M (by omega)]
      simp
/-- One more column of a root: sub, div, root, dot being those of a kind of numbers. -/
def rootStep {α : Type} (sub div : α → α → α) (root : α → α) (dot : List α → List α → α) (p m : Nat → Nat → α) (k i j : Nat) : α :=
  if j = k ∧ k ≤ i then (if i = k then root (sub (p k k) (dot (rowM k m k) (rowM k m k))) else div (sub (p i k) (dot (rowM k m i) (rowM k m k))) (root (sub (p k k) (dot (rowM k m k) (rowM k m k))))) else m i j
/-- The first columns of a root; the others are z. -/
def rootTo {α : Type} (sub div : α → α → α) (root : α → α) (dot : List α → List α → α) (z : α) (p : Nat → Nat → α) : Nat → Nat → Nat → α
  | 0 => fun _ _ => z
  | k + 1 => rootStep sub div root dot p (rootTo sub div root dot z p k) k
/-- The first columns of a triangle. -/
def colsTo {α : Type} (z : α) (s : Nat → Nat → α) (k i j : Nat) : α := if j < k then s i j else z
theorem dot_low {n : Nat} {s : Nat → Nat → Int} (hn : n ≤ 16) (hs : Sm2 100 n n s) {i j k : Nat} (hi : i < n) (hj : j < n) (hk : k ≤ n) :
    dotF ((rowM k s i).map itF) ((rowM k s j).map itF) = itF (mulI k s (fun i k => s k i) i j) ∧ -(10000 * (k : Int)) ≤ mulI k s (fun i k => s k i) i j ∧ mulI k s (fun i k => s k i) i j ≤ 10000 * (k : Int) := by
  have a : Sml 100 (rowM k s i) := row_sml (R := n) (C := k) (fun i' k' h1 h2 => hs i' k' h1 (by omega)) hi
  have b : Sml 100 (rowM k s j) := row_sml (R := n) (C := k) (fun i' k' h1 h2 => hs i' k' h1 (by omega)) hj
  constructor
  · rw [dot_it6 (A := 100) (B := 100) a b (by omega) (by omega) (by rw [rowM_len]; omega) (by omega)]
    rfl
  · have := mulI_bound (A := 100) (B := 100) (R := n) (M := n) (D := n) (a := s) (b := fun i k => s k i) (by omega) (by omega) hs (fun i k hi hk => hs k i hk hi) hi hj k hk
    constructor <;> omega
/-- The root of a triangle's square is it, in fractions. -/
theorem rootTo_it {n : Nat} {s : Nat → Nat → Int} (hn : n ≤ 16) (hs : Sm2 100 n n s) (hl : Low 0 s) (hd : ∀ k, k < n → 0 < s k k) :
    ∀ k, k ≤ n → ∀ i j, i < n → j < n → rootTo subR divR rootR dotF (itF 0) (fun i k => itF (mulI n s (fun i k => s k i) i k)) k i j = itF (colsTo 0 s k i j)
  | 0, _, i, j, _, _ => by simp [rootTo, colsTo]
  | k + 1, hk, i, j, hi, hj => by
    have ih := rootTo_it hn hs hl hd k (by omega)
    have hrow : ∀ i, i < n → rowM k (rootTo subR divR rootR dotF (itF 0) (fun i k => itF (mulI n s (fun i k => s k i) i k)) k) i = (rowM k s i).map itF := fun i hi => by
      unfold rowM
      rw [List.map_map]
      refine List.map_congr_left fun j hj => ?_
      have hj' : j < k := by simpa using hj
      rw [ih i j hi (by omega)]
      simp [colsTo, hj']
    have hkn : k < n := by omega
    have hsub : ∀ i, i < n → subR (itF (mulI n s (fun i k => s k i) i k)) (dotF ((rowM k s i).map itF) ((rowM k s k).map itF)) = itF (s i k * s k k) := fun i hi => by
      obtain ⟨e, b1, b2⟩ := dot_low hn hs hi hkn (k := k) (by omega)
      have e2 := mulI_low hl i k n hkn
      have b3 := mul_bound (A := 100) (B := 100) (hs i k hi hkn) (hs k k hkn hkn)
      rw [e, e2, sub_it ⟨by omega, by omega⟩ ⟨by omega, by omega⟩ ⟨by omega, by omega⟩]
      congr 1
      omega
    have hdk := hd k hkn
    have hb := hs k k hkn hkn
    have hroot : rootR (itF (s k k * s k k)) = itF (s k k) := root_it (by omega) (by omega)
    show rootStep subR divR rootR dotF _ _ k i j = _
    unfold rootStep
    rw [hrow i hi, hrow k hkn, hsub k hkn, hsub i hi, hroot]
    by_cases h : j = k ∧ k ≤ i
    · obtain ⟨rfl, hji⟩ := h
      rw [if_pos ⟨rfl, hji⟩]
      have ec : colsTo 0 s (j + 1) i j = s i j := by simp [colsTo]
      rw [ec]
      by_cases hij : i = j
      · subst hij; rw [if_pos rfl]
      · rw [if_neg hij]
        have b3 := mul_bound (A := 100) (B := 100) (hs i j hi hkn) hb
        have b4 := hs i j hi hkn
        exact div_it ⟨by omega, by omega⟩ ⟨by omega, by omega⟩ ⟨by omega, by omega⟩ (by omega)
    · rw [if_neg h, ih i j hi hj]
      unfold colsTo
      by_cases hjk : j < k
      · rw [if_pos hjk, if_pos (by omega)]
      · rw [if_neg hjk]
        by_cases hjk2 : j = k
        · subst hjk2
          rw [if_pos (by omega), hl i j (by omega)]
        · rw [if_neg (by omega)]
theorem rootTo_all {n : Nat} {s : Nat → Nat → Int} (hn : n ≤ 16) (hs : Sm2 100 n n s) (hl : Low 0 s) (hd : ∀ k, k < n → 0 < s k k) {i j : Nat} (hi : i < n) (hj : j < n) :
    rootTo subR divR rootR dotF (itF 0) (fun i k => itF (mulI n s (fun i k => s k i) i k)) n i j = itF (s i j) := by
  rw [rootTo_it hn hs hl hd n (Nat.le_refl _) i j hi hj]
  simp [colsTo, hj]
end Go.Proofs.Ythnadgbloamlaaa

/- Joseph's lane in fractions: a tick of the unit, and of no noise, and a measurement of nothing. Mathematics alone. -/
namespace Go.Proofs.Ythnadgbloamlaaa
open Go.RowKit
set_option linter.unusedSimpArgs false
set_option linter.unusedVariables false

theorem mulK_congr {α : Type} (K : Kd α) {M i k : Nat} {f f' g g' : Nat → Nat → α} (hf : ∀ c, c < M → f i c = f' i c) (hg : ∀ c, c < M → g c k = g' c k) : mulK K M f g i k = mulK K M f' g' i k := by
  unfold mulK
  rw [rowM_congr (C := M) (f := f) (g := f') (i := i) hf, show colM M g k = colM M g' k from List.map_congr_left fun c hc => hg c (List.mem_range.1 hc)]
theorem mulI_unit_l (a : Nat → Nat → Int) {M i : Nat} (k : Nat) (hi : i < M) : mulI M unitI a i k = a i k := by
  have e := mulI_turn M (fun i k => a i k) unitI k i
  have h := mulI_unit_r (fun i k => a k i) k M i
  rw [if_pos hi] at h
  have hu : (fun i k => unitI k i) = unitI := by funext x y; unfold unitI; by_cases e : x = y <;> simp [e, eq_comm]
  have e2 := mulI_turn M unitI (fun i k => a i k) k i
  rw [hu] at e2
  rw [← e2]
  exact h
theorem mulK_it {A B : Int} {n : Nat} {a b : Nat → Nat → Int} (ha : Sm2 A n n a) (hb : Sm2 B n n b) (hn : n ≤ 16) (hA : 0 ≤ A ∧ A ≤ 1073741824) (hB : 0 ≤ B ∧ B ≤ 1073741824) (hAB : A * B ≤ 67108864) {i k : Nat} (hi : i < n) (hk : k < n) :
    mulK kdF n (fun i k => itF (a i k)) (fun i k => itF (b i k)) i k = itF (mulI n a b i k) := mulM_it ha hb hn hA hB hAB hi hk
theorem unit_sm (n : Nat) : Sm2 1 n n unitI := fun i k _ _ => by unfold unitI; by_cases e : i = k <;> simp [e]
/-- A tick of the unit leaves P. -/
theorem still_around {n : Nat} {p : Nat → Nat → Int} {A : Int} (hp : Sm2 A n n p) (hn : n ≤ 16) (hA : 0 ≤ A ∧ A ≤ 67108864) {i k : Nat} (hi : i < n) (hk : k < n) (m : Nat → Nat → Fr) (hm : ∀ i k, i < n → k < n → m i k = itF (unitI i k)) (P : Nat → Nat → Fr) (hP : ∀ i k, i < n → k < n → P i k = itF (p i k)) :
    aroundJ kdF n m P i k = itF (p i k) := by
  have h1 : ∀ c, c < n → mulK kdF n m P i c = itF (p i c) := fun c hc => by
    rw [mulK_congr kdF (f' := fun i k => itF (unitI i k)) (g' := fun i k => itF (p i k)) (fun j hj => hm i j hi hj) (fun j hj => hP j c hj hc), mulK_it (unit_sm n) hp hn (by omega) (by omega) (by omega) hi hc, mulI_unit_l p c hi]
  unfold aroundJ
  rw [mulK_congr kdF (f' := fun i k => itF (p i k)) (g' := fun i k => itF (unitI i k)) h1 (fun c hc => by
    show m k c = itF (unitI c k)
    rw [hm k c hk hc]
    unfold unitI
    by_cases e : k = c <;> simp [e, eq_comm]), mulK_it hp (unit_sm n) hn (by omega) (by omega) (by omega) hi hk, mulI_unit_r, if_pos hk]
theorem dot_zero {n : Nat} (hn : n ≤ 16) (x y : Nat → Int) (A : Int) (hx : ∀ k, k < n → -A ≤ x k ∧ x k ≤ A) (hA : 0 ≤ A ∧ A ≤ 67108864) (hy : ∀ k, k < n → y k = 0) : dotF (linJ n fun k => itF (x k)) (linJ n fun k => itF (y k)) = itF 0 := by
  have e1 : linJ n (fun k => itF (x k)) = (linJ n x).map itF := by simp [linJ, Function.comp_def]
  have e2 : linJ n (fun k => itF (y k)) = (linJ n fun _ => (0 : Int)).map itF := by simp only [linJ, List.map_map]; exact List.map_congr_left fun k hk => by simp [hy k (List.mem_range.1 hk)]
  have s1 : Sml A (linJ n x) := fun v hv => by
    obtain ⟨k, hk, rfl⟩ := List.mem_map.1 hv
    exact hx k (List.mem_range.1 hk)
  have s2 : Sml 0 (linJ n fun _ => (0 : Int)) := fun v hv => by
    obtain ⟨k, hk, rfl⟩ := List.mem_map.1 hv
    omega
  rw [e1, e2, dot_it6 s1 s2 (by omega) (by omega) (by rw [linJ_len]; exact hn) (by omega)]
  congr 1
  have : ∀ (l : List Nat), dotI (l.map x) (l.map fun _ => (0 : Int)) = 0 := fun l => by
    induction l with
    | nil => rfl
    | cons a l ih => unfold dotI at ih ⊢; simpa using ih
  exact this _
theorem wh0 : Wh 0 := ⟨by decide, by decide⟩
theorem add0_it {x : Int} (h : Wh x) : addR (itF x) (itF 0) = itF x := by
  have := add_it h wh0 (by rw [Int.add_zero]; exact h)
  rwa [Int.add_zero] at this
theorem sub0_it {x : Int} (h : Wh x) : subR (itF x) (itF 0) = itF x := by
  have := sub_it h wh0 (by rw [Int.sub_zero]; exact h)
  rwa [Int.sub_zero] at this
/-- The outer product with noughts. -/
theorem outer_zero {c r : Nat → Fr} {i k : Nat} {x : Int} (hc : c i = itF x) (hx : -67108864 ≤ x ∧ x ≤ 67108864) (hr : r k = itF 0) : outerJ kdF c r i k = itF 0 := by
  show dotF (linJ 1 fun _ => c i) (linJ 1 fun _ => r k) = itF 0
  rw [hc, hr]
  exact dot_zero (by decide) (fun _ => x) (fun _ => 0) 67108864 (fun _ _ => by omega) (by omega) (fun _ _ => rfl)
/-- A matrix whose numbers are noughts: its square. -/
theorem square_zero {n : Nat} (hn : n ≤ 16) {g : Nat → Nat → Fr} (hg : ∀ i k, i < n → k < n → g i k = itF 0) {i k : Nat} (hi : i < n) (hk : k < n) : squareJ kdF n g i k = itF 0 := by
  unfold squareJ mirM
  have h1 : max i k < n := by omega
  have h2 : min i k < n := by omega
  rw [mulK_congr kdF (f' := fun _ _ => itF 0) (g' := fun _ _ => itF 0) (fun c hc => hg _ c h1 hc) (fun c hc => hg _ c h2 hc)]
  exact dot_zero hn (fun _ => 0) (fun _ => 0) 0 (fun _ _ => by omega) (by omega) (fun _ _ => rfl)
theorem still_pred {n : Nat} {p : Nat → Nat → Int} {A : Int} (hp : Sm2 A n n p) (hs : ∀ i k, i < n → k < n → p i k = p k i) (hn : n ≤ 16) (hA : 0 ≤ A ∧ A ≤ 67108864) {m P g : Nat → Nat → Fr} (hm : ∀ i k, i < n → k < n → m i k = itF (unitI i k)) (hP : ∀ i k, i < n → k < n → P i k = itF (p i k))
    (hg : ∀ i k, i < n → k < n → g i k = itF 0) {i k : Nat} (hi : i < n) (hk : k < n) : predJ kdF n m P g i k = itF (p i k) := by
  show addR (aroundJ kdF n m P (max i k) (min i k)) (squareJ kdF n g (max i k) (min i k)) = _
  have h1 : max i k < n := by omega
  have h2 : min i k < n := by omega
  have hb := hp _ _ h1 h2
  rw [still_around hp hn hA h1 h2 m hm P hP, square_zero hn hg h1 h2, add0_it ⟨by omega, by omega⟩]
  by_cases h : k ≤ i
  · rw [Nat.max_eq_left h, Nat.min_eq_right h]
  · rw [Nat.max_eq_right (by omega), Nat.min_eq_left (by omega), hs i k hi hk]
theorem still_app {n : Nat} {x : Nat → Int} {A : Int} (hx : ∀ k, k < n → -A ≤ x k ∧ x k ≤ A) (hn : n ≤ 16) (hA : 0 ≤ A ∧ A ≤ 67108864) {m : Nat → Nat → Fr} {X : Nat → Fr} (hm : ∀ i k, i < n → k < n → m i k = itF (unitI i k)) (hX : ∀ k, k < n → X k = itF (x k)) {i : Nat} (hi : i < n) : appJ kdF n m X i = itF (x i) := by
  show mulK kdF n m (fun c _ => X c) i 0 = _
  rw [mulK_congr kdF (f' := fun i k => itF (unitI i k)) (g' := fun c _ => itF (x c)) (fun c hc => hm i c hi hc) (fun c hc => hX c hc)]
  have := mulM_it (R := n) (M := n) (D := 1) (a := unitI) (b := fun c _ => x c) (unit_sm n) (fun c _ hc _ => hx c hc) hn (by omega) (by omega) (by omega) hi (show 0 < 1 by decide)
  show mulMF n (fun i k => itF (unitI i k)) (fun c _ => itF (x c)) i 0 = _
  rw [this, mulI_unit_l (fun c _ => x c) 0 hi]
/-- A measurement of nothing. -/
structure StillUp (n : Nat) (p : Nat → Nat → Int) (x : Nat → Int) (r z : Int) (one P : Nat → Nat → Fr) (X h : Nat → Fr) : Prop where
  spread : spreadJ kdF n P h (itF r) = itF r
  surp : surpJ kdF n X h (itF z) = itF z
  x : ∀ i, i < n → upXJ kdF n X P h (itF r) (itF z) i = itF (x i)
  p : ∀ i k, i < n → k < n → upPJ kdF one n P h (itF r) i k = itF (p i k)
theorem still_up {n : Nat} {p : Nat → Nat → Int} {x : Nat → Int} {r z A : Int} (hp : Sm2 A n n p) (hs : ∀ i k, i < n → k < n → p i k = p k i) (hx : ∀ k, k < n → -A ≤ x k ∧ x k ≤ A) (hn : n ≤ 16) (hA : 0 ≤ A ∧ A ≤ 67108864) (hr : 1 ≤ r ∧ r ≤ 1000) (hz : -1000 ≤ z ∧ z ≤ 1000)
    {one P : Nat → Nat → Fr} {X h : Nat → Fr} (ho : ∀ i k, i < n → k < n → one i k = itF (unitI i k)) (hP : ∀ i k, i < n → k < n → P i k = itF (p i k)) (hX : ∀ k, k < n → X k = itF (x k)) (hh : ∀ k, k < n → h k = itF 0) : StillUp n p x r z one P X h := by
  have u0 : ∀ i, i < n → appJ kdF n P h i = itF 0 := fun i hi => by
    show dotF (rowM n P i) (linJ n h) = itF 0
    rw [linJ_row, linJ_congr (x := P i) (y := fun k => itF (p i k)) (fun k hk => hP i k hi hk), linJ_congr (x := h) (y := fun _ => itF 0) hh]
    exact dot_zero hn (p i) (fun _ => 0) A (fun k hk => hp i k hi hk) hA (fun _ _ => rfl)
  have zz : ∀ (y : Nat → Fr), (∀ k, k < n → y k = itF 0) → dotF (linJ n h) (linJ n y) = itF 0 := fun y hy => by
    rw [linJ_congr (x := h) (y := fun _ => itF 0) hh, linJ_congr (x := y) (y := fun _ => itF 0) hy]
    exact dot_zero hn (fun _ => 0) (fun _ => 0) 0 (fun _ _ => by omega) (by omega) (fun _ _ => rfl)
  have sp : spreadJ kdF n P h (itF r) = itF r := by
    show addR (dotF (linJ n h) (linJ n (appJ kdF n P h))) (itF r) = itF r
    rw [zz _ u0]
    have := add_it wh0 (show Wh r from ⟨by omega, by omega⟩) (by rw [Int.zero_add]; exact ⟨by omega, by omega⟩)
    rwa [Int.zero_add] at this
  have k0 : ∀ i, i < n → gainJ kdF n P h (itF r) i = itF 0 := fun i hi => by
    show divR (appJ kdF n P h i) (spreadJ kdF n P h (itF r)) = itF 0
    rw [u0 i hi, sp]
    have := div_it (x := 0) (y := r) wh0 ⟨by omega, by omega⟩ (by rw [Int.zero_mul]; exact wh0) (by omega)
    rwa [Int.zero_mul] at this
  have m00 : ∀ y : Int, Wh y → mulR (itF 0) (itF y) = itF 0 := fun y hy => by
    have := mul_it wh0 hy (by rw [Int.zero_mul]; exact wh0)
    rwa [Int.zero_mul] at this
  have sr : surpJ kdF n X h (itF z) = itF z := by
    show subR (itF z) (dotF (linJ n h) (linJ n X)) = itF z
    have e : dotF (linJ n h) (linJ n X) = itF 0 := by
      rw [linJ_congr (x := h) (y := fun _ => itF 0) hh, linJ_congr (x := X) (y := fun k => itF (x k)) hX]
      have := mulK_congr kdF (M := n) (i := 0) (k := 0) (f := fun _ k => itF 0) (f' := fun _ k => itF 0) (g := fun k _ => itF (x k)) (g' := fun k _ => itF (x k)) (fun _ _ => rfl) (fun _ _ => rfl)
      have c := mulM_it (R := 1) (M := n) (D := 1) (A := 0) (B := A) (a := fun _ _ => 0) (b := fun k _ => x k) (fun _ _ _ _ => ⟨by show -(0 : Int) ≤ 0; omega, by show (0 : Int) ≤ 0; omega⟩) (fun k _ hk _ => hx k hk) hn (by omega) (by omega) (by omega) (show 0 < 1 by decide) (show 0 < 1 by decide)
      have c2 : mulI n (fun _ _ => 0) (fun k _ => x k) 0 0 = 0 := by
        clear c this hX hP hh u0 zz sp k0 hp hs hx hn ho
        induction n with
        | zero => rfl
        | succ n ih => rw [mulI_succ, ih, Int.zero_mul, Int.add_zero]
      rw [c2] at c
      exact c
    rw [e, sub0_it ⟨by omega, by omega⟩]
  refine ⟨sp, sr, fun i hi => ?_, fun i k hi hk => ?_⟩
  · show addR (X i) (mulR (gainJ kdF n P h (itF r) i) (surpJ kdF n X h (itF z))) = _
    rw [k0 i hi, sr, m00 z ⟨by omega, by omega⟩, hX i hi]
    exact add0_it ⟨by have := hx i hi; omega, by have := hx i hi; omega⟩
  · have h1 : max i k < n := by omega
    have h2 : min i k < n := by omega
    have hb := hp _ _ h1 h2
    have hrest : ∀ i k, i < n → k < n → restJ kdF one (gainJ kdF n P h (itF r)) h i k = itF (unitI i k) := fun i k hi hk => by
      show subR (one i k) (outerJ kdF (gainJ kdF n P h (itF r)) h i k) = _
      rw [outer_zero (k0 i hi) (by omega) (hh k hk), ho i k hi hk]
      exact sub0_it (by unfold unitI; by_cases e : i = k <;> simp [e] <;> exact ⟨by omega, by omega⟩)
    show addR (aroundJ kdF n (restJ kdF one (gainJ kdF n P h (itF r)) h) P (max i k) (min i k)) (outerJ kdF (fun i => mulR (gainJ kdF n P h (itF r) i) (itF r)) (gainJ kdF n P h (itF r)) (max i k) (min i k)) = _
    rw [still_around hp hn hA h1 h2 _ hrest P hP, outer_zero (c := fun i => mulR (gainJ kdF n P h (itF r) i) (itF r)) (x := 0) (by show mulR _ _ = _; rw [k0 _ h1]; exact m00 r ⟨by omega, by omega⟩) (by omega) (k0 _ h2), add0_it ⟨by omega, by omega⟩]
    by_cases hik : k ≤ i
    · rw [Nat.max_eq_left hik, Nat.min_eq_right hik]
    · rw [Nat.max_eq_right (by omega), Nat.min_eq_left (by omega), hs i k hi hk]
end Go.Proofs.Ythnadgbloamlaaa

/- An append of a matrix's row to a row, of fractions: a region that draws its order (layer 6). -/
namespace Go.Proofs.Ythnadgbloamlaaa
open Go.RowKit Go.Shelf
set_option linter.unusedSimpArgs false
set_option linter.unusedVariables false

theorem flat_cellsF_len (xs : List Fr) : (xs.flatMap cellsF).length = xs.length * 3 := flat_len cellsF_len xs
theorem Try.loadMF (B : Nat) (r c : Int) (p : Option Addr) (n cap : Nat) (u : World) (h : MBox u B r c p n cap) : (Instr.loadAt 29 (.pointer (some ⟨B, 0, none⟩))).run Try.prog u = .ok (mV r c p n cap) u := by
  simp [go_sem, h.c0, h.c1, h.c2]
/-- Between two of its operations. -/
def RowI (d : Nat) (a : Act) (W : World) (v v1 v2 : Value) (C : Nat) (row : List Fr) (base : Nat) (xs : List Fr) (B : Nat) (L : Nat → Bool) (act : Act) (u : World) : Prop :=
  a.tmps.size = act.tmps.size ∧ (∀ s, s < d → act.eval (.tmp s) = a.eval (.tmp s)) ∧ (L 3 = true → L 1 = true ∧ L 2 = true) ∧ (L 4 = true → L 0 = true ∧ L 3 = true) ∧ (L 5 = true → L 4 = true)
    ∧ (L 4 = false → Bl W u ∧ (L 0 = true → act.eval (.tmp d) = v) ∧ (L 1 = true → act.eval (.tmp (d + 1)) = v1) ∧ (L 2 = true → act.eval (.tmp (d + 2)) = v2) ∧ (L 3 = true → ∃ p' cap', act.eval (.tmp (d + 3)) = .slice p' C cap' ∧ Rw 3 cellsF u (.slice p' C cap') row))
    ∧ (L 4 = true → ∃ u0 w5 g' cap', Bl W u0 ∧ u0.grownBy w5 v.ownBlock ∧ w5.ownsRow base 35 3 (.slice (some ⟨g', 0, none⟩) (xs.length + C) cap') (xs.length + C) (xs.flatMap cellsF ++ row.flatMap cellsF) ∧ (some g' = v.ownBlock ∨ g' = u0.heap.size)
        ∧ (L 5 = false → u = w5 ∧ act.eval (.tmp (d + 4)) = .slice (some ⟨g', 0, none⟩) (xs.length + C) cap') ∧ (L 5 = true → u = w5.setCell ⟨B, 0, none⟩ (.slice (some ⟨g', 0, none⟩) (xs.length + C) cap')))
theorem ownsRow_some {w : World} {base s m : Nat} {e : TypeId} {v : Value} {l : List Value} (h : w.ownsRow base e s v m l) (hm : 0 < m) : ∃ g cap, v = .slice (some ⟨g, 0, none⟩) m cap := by
  rcases h.2 with ⟨_, h0⟩ | ⟨g, cap, cur, rfl, _⟩
  · omega
  · exact ⟨g, cap, rfl⟩
set_option maxHeartbeats 1000000 in
theorem rowAppend {F : Fence} {m : Nat} {ops : Array Oper} {o0 o1 o2 o3 o4 o5 : Oper} {Q : Exit → Act → World → Prop} {a : Act} {W : World} {id : Nat} (hops : ops = #[o0, o1, o2, o3, o4, o5]) (hlow : lowB ops = true) (d sL fD : Nat) (ts : Array TypeId) (hsz : d + 5 ≤ a.tmps.size) (hsL : sL < d)
    (g0 : o0.guard = none ∧ o0.dst = some d ∧ o0.op = .load 27 (.tmp sL)) (g1 : o1.guard = none ∧ o1.dst = some (d + 1)) (g2 : o2.guard = none ∧ o2.dst = some (d + 2))
    (g3 : o3.guard = none ∧ o3.dst = some (d + 3) ∧ o3.op = .call { callee := .value (.func fD), args := #[.tmp (d + 1), .tmp (d + 2)], argTypes := ts })
    (g4 : o4.guard = none ∧ o4.dst = some (d + 4) ∧ o4.op = .call { callee := .builtin .append, args := #[.tmp d, .tmp (d + 3)], argTypes := #[27, 27] })
    (g5 : o5.guard = none ∧ o5.dst = none ∧ o5.op = .store 27 (.tmp sL) (.tmp (d + 4)))
    (e3 : (⟨1, .data⟩ : Edge) ∈ o3.after ∧ (⟨2, .data⟩ : Edge) ∈ o3.after) (e4 : (⟨0, .data⟩ : Edge) ∈ o4.after ∧ (⟨3, .data⟩ : Edge) ∈ o4.after) (e5 : (⟨4, .data⟩ : Edge) ∈ o5.after)
    (v1 v2 : Value) (h1 : ∀ (act : Act) (u : World) (K : Act → World → Prop), (∀ s, s < d → act.eval (.tmp s) = a.eval (.tmp s)) → Bl W u → K (act.put (some (d + 1)) v1) u → Oper.wpIn F m Try.prog o1 act u K Q)
    (h2 : ∀ (act : Act) (u : World) (K : Act → World → Prop), (∀ s, s < d → act.eval (.tmp s) = a.eval (.tmp s)) → Bl W u → K (act.put (some (d + 2)) v2) u → Oper.wpIn F m Try.prog o2 act u K Q)
    (hF : F.fn fD) (hdep : F.depth.isSome = true → 1 ≤ m) (eg : ∀ args w, (callFunc fD args).run Try.prog w = .ok (.enter fD args) w) (C : Nat) (hC0 : 0 < C) (hC1 : C ≤ 1000) (row : List Fr) (hrl : row.length = C)
    (hC : ∀ u, Bl W u → CallsIn F (m - 1) Try.prog fD #[v1, v2] u fun e w' => ∃ p' cap', e = .returned (.slice p' C cap') ∧ Rw 3 cellsF w' (.slice p' C cap') row ∧ Bl u w')
    (B : Nat) (hB : a.eval (.tmp sL) = .pointer (some ⟨B, 0, none⟩)) (v : Value) (hv : Boxed W B 27 v) (base : Nat) (xs : List Fr) (hown : W.ownsRow base 35 3 v xs.length (xs.flatMap cellsF)) (hlen : xs.length ≤ 100000) (hbase : base ≤ W.heap.size)
    (fin : ∀ act u0 w5 g' cap', Bl W u0 → u0.grownBy w5 v.ownBlock → w5.ownsRow base 35 3 (.slice (some ⟨g', 0, none⟩) (xs.length + C) cap') (xs.length + C) (xs.flatMap cellsF ++ row.flatMap cellsF) → (some g' = v.ownBlock ∨ g' = u0.heap.size) → Q .normal act (w5.setCell ⟨B, 0, none⟩ (.slice (some ⟨g', 0, none⟩) (xs.length + C) cap'))) :
    (Code.region id ops true).wpIn F m Try.prog Q a W := by
  obtain ⟨i0, hi, hz0, hz1, hz2⟩ := info_parts Try.info_F
  have fm : Try.prog.follows .mixedOrders = true := by kernel_rfl
  refine region_facts fm (lowB_low hlow) (RowI d a W v v1 v2 C row base xs B) ?_ ?_ ?_
  · exact ⟨rfl, fun _ _ => rfl, nofun, nofun, nofun, fun _ => ⟨(Bl.refl _).drew, nofun, nofun, nofun, nofun⟩, nofun⟩
  · intro L act u i o ⟨hs, hfr, c3, c4, c5, hpre, hpost⟩ ho hLi hall
    have hlt : i < 6 := by have := (Array.getElem?_eq_some_iff.1 ho).1; rw [hops] at this; simpa using this
    have sv : ∀ (e : Nat) (x : Value), e < act.tmps.size → (act.put (some e) x).eval (.tmp e) = x := fun e x h => eval_put_same h
    have ne4 : (L 4 = true → False) → L 4 = false := fun h => by cases hh : L 4 <;> simp_all
    have fr : ∀ (e : Nat) (x : Value), d ≤ e → ∀ s, s < d → (act.put (some e) x).eval (.tmp s) = a.eval (.tmp s) := fun e x he s hs => by rw [eval_put_other (by omega)]; exact hfr s hs
    rcases (by omega : i = 0 ∨ i = 1 ∨ i = 2 ∨ i = 3 ∨ i = 4 ∨ i = 5) with rfl | rfl | rfl | rfl | rfl | rfl
    · obtain rfl : o = o0 := by rw [hops] at ho; simpa using ho.symm
      have l4 : L 4 = false := ne4 fun h => by rw [(c4 h).1] at hLi; cases hLi
      obtain ⟨hb, p0, p1, p2, p3⟩ := hpre l4
      refine step_wp ho g0.1 (load_wp _ _ g0.2.2 (v := v) (by rw [hfr _ hsL, hB]; exact Try.load1F B v u (boxed_bl hv hb).cell) ?_)
      rw [g0.2.1]
      refine ⟨by rw [size_put]; exact hs, fr _ _ (Nat.le_refl _), by simpa using c3, by simp [l4], by simpa using c5, fun _ => ⟨hb, fun _ => sv _ _ (by omega), ?_, ?_, ?_⟩, by simp [l4]⟩
      all_goals (simp only [Nat.reduceEqDiff, Nat.reduceBEq, Bool.or_false]; intro h; rw [eval_put_other (by omega)])
      · exact p1 h
      · exact p2 h
      · exact p3 h
    · obtain rfl : o = o1 := by rw [hops] at ho; simpa using ho.symm
      have l3 : L 3 = false := by cases hh : L 3 <;> simp_all
      have l4 : L 4 = false := ne4 fun h => by rw [(c4 h).2] at l3; cases l3
      obtain ⟨hb, p0, p1, p2, p3⟩ := hpre l4
      refine step_wp ho g1.1 (h1 act u _ hfr hb ?_)
      refine ⟨by rw [size_put]; exact hs, fr _ _ (by omega), by simp [l3], by simp [l4], by simpa using c5, fun _ => ⟨hb, ?_, fun _ => sv _ _ (by omega), ?_, by simp [l3]⟩, by simp [l4]⟩
      all_goals (simp only [Nat.reduceEqDiff, Nat.reduceBEq, Bool.or_false]; intro h; rw [eval_put_other (by omega)])
      · exact p0 h
      · exact p2 h
    · obtain rfl : o = o2 := by rw [hops] at ho; simpa using ho.symm
      have l3 : L 3 = false := by cases hh : L 3 <;> simp_all
      have l4 : L 4 = false := ne4 fun h => by rw [(c4 h).2] at l3; cases l3
      obtain ⟨hb, p0, p1, p2, p3⟩ := hpre l4
      refine step_wp ho g2.1 (h2 act u _ hfr hb ?_)
      refine ⟨by rw [size_put]; exact hs, fr _ _ (by omega), by simp [l3], by simp [l4], by simpa using c5, fun _ => ⟨hb, ?_, ?_, fun _ => sv _ _ (by omega), by simp [l3]⟩, by simp [l4]⟩
      all_goals (simp only [Nat.reduceEqDiff, Nat.reduceBEq, Bool.or_false]; intro h; rw [eval_put_other (by omega)])
      · exact p0 h
      · exact p1 h
    · obtain rfl : o = o3 := by rw [hops] at ho; simpa using ho.symm
      have l1 : L 1 = true := hall _ e3.1 rfl
      have l2 : L 2 = true := hall _ e3.2 rfl
      have l4 : L 4 = false := ne4 fun h => by rw [(c4 h).2] at hLi; cases hLi
      obtain ⟨hb, p0, p1, p2, p3⟩ := hpre l4
      refine step_wp ho g3.1 (call2_wp fD _ _ _ g3.2.2 hF hdep eg (by rw [p1 l1, p2 l2]; exact hC u hb) ?_)
      rintro e w' ⟨p', cap', rfl, hrw, hb'⟩
      refine ⟨_, rfl, ?_⟩
      rw [g3.2.1]
      refine ⟨by rw [size_put]; exact hs, fr _ _ (by omega), by simp [l1, l2], by simp [l4], by simpa using c5, fun _ => ⟨hb.trans hb', ?_, ?_, ?_, fun _ => ⟨p', cap', sv _ _ (by omega), hrw⟩⟩, by simp [l4]⟩
      all_goals (simp only [Nat.reduceEqDiff, Nat.reduceBEq, Bool.or_false]; intro h; rw [eval_put_other (by omega)])
      · exact p0 h
      · exact p1 h
      · exact p2 h
    · obtain rfl : o = o4 := by rw [hops] at ho; simpa using ho.symm
      have l0 : L 0 = true := hall _ e4.1 rfl
      have l3 : L 3 = true := hall _ e4.2 rfl
      have l5 : L 5 = false := by cases hh : L 5 <;> simp_all
      obtain ⟨hb, p0, p1, p2, p3⟩ := hpre hLi
      obtain ⟨pr, cr, hg, hrw⟩ := p3 l3
      rcases hrw with ⟨_, h0⟩ | ⟨b, o', cc, e, _, hbl, hx⟩
      · rw [h0] at hrl; simp at hrl; omega
      obtain ⟨hpr, hcr⟩ : pr = some ⟨b, o', none⟩ ∧ cr = cc := by cases e; exact ⟨rfl, rfl⟩
      subst hpr hcr
      clear e
      refine step_wp ho g4.1 (stepIn_append (.tmp d) (.tmp (d + 3)) 27 g4.2.2 base 35 i0 (.agg #[.int .i64 0, .int .i64 0, .bool false]) 3 24 Try.underlying27 hi hz0 hz1 hz2 rfl (by decide) v xs.length (xs.flatMap cellsF) (p0 l0) (own_blF hown hb) ⟨b, o', none⟩ C cr (row.flatMap cellsF) hg (by rw [flat_cellsF_len, hrl]) (flat_cells cellsF_len hx) (flat_one oneF_cells row) (by unfold maxLen; omega) (by omega) (by have := hb.size; omega) ?_)
      intro v' w5 hown' hgrow hat
      obtain ⟨g', cap', rfl⟩ := ownsRow_some hown' (by omega)
      rw [g4.2.1]
      refine ⟨by rw [size_put]; exact hs, fr _ _ (by omega), by simpa using c3, by simp [l0, l3], by simp [l5], by simp, fun _ => ⟨u, w5, g', cap', hb, hgrow, hown', ?_, fun _ => ⟨rfl, sv _ _ (by omega)⟩, by simp [l5]⟩⟩
      rcases hat with h | h
      · exact .inl h
      · exact .inr (by simpa [Value.ownBlock] using h)
    · obtain rfl : o = o5 := by rw [hops] at ho; simpa using ho.symm
      have l4 : L 4 = true := hall _ e5 rfl
      obtain ⟨u0, w5, g', cap', k1, k2, k3, k4, k5, _⟩ := hpost l4
      obtain ⟨rfl, ev⟩ := k5 hLi
      have hv5 : Boxed u B 27 v := (boxed_bl hv k1).kept k2 ((boxed_bl hv k1).not_row (by decide) (own_blF hown k1))
      refine step_wp ho g5.1 (store_wp _ _ _ g5.2.2 (by rw [hfr _ hsL, hB, ev]; exact Try.store1F B _ _ _ v u hv5.cell hv5.frozen) ?_)
      rw [g5.2.1]
      exact ⟨by rw [size_put]; exact hs, fun s hs => hfr s hs, by simpa using c3, by simpa using c4, by simp [l4], by simp [l4], fun _ => ⟨u0, u, g', cap', k1, k2, k3, k4, by simp, fun _ => rfl⟩⟩
  · intro L act u ⟨hs, hfr, c3, c4, c5, hpre, hpost⟩ hL
    have hL' : ∀ j, j < 6 → L j = true := fun j hj => hL j (by rw [hops]; simpa using hj)
    obtain ⟨u0, w5, g', cap', k1, k2, k3, k4, _, k6⟩ := hpost (hL' 4 (by omega))
    rw [k6 (hL' 5 (by omega))]
    exact fin act u0 w5 g' cap' k1 k2 k3 k4
end Go.Proofs.Ythnadgbloamlaaa

/- mat's Beside, of fractions (layer 6). -/
namespace Go.Proofs.Ythnadgbloamlaaa
open Go.RowKit Go.Shelf
set_option linter.unusedSimpArgs false
set_option linter.unusedVariables false
attribute [local go_sem] Oper.semAt_some

end Go.Proofs.Ythnadgbloamlaaa

/- Sums, and what stands beside one another, of matrices of whole numbers, as fractions (layer 6's laws). -/
namespace Go.Proofs.Ythnadgbloamlaaa
open Go.RowKit
set_option linter.unusedSimpArgs false
set_option linter.unusedVariables false

theorem add6_any {A B : Int} (R C : Nat) (p q : Option Addr) (n cap cap2 : Nat) (a b : Nat → Nat → Int) (w : World) (hx : MxI w R C p n cap a) (hy : MxI w R C q n cap2 b) (ha : Sm2 A R C a) (hb : Sm2 B R C b) (hA : A ≤ 100000000) (hB : B ≤ 100000000) :
    Calls Try.prog 57 #[mV R C p n cap, mV R C q n cap2] w fun e w' => ∃ p' cap', e = .returned (.tuple #[mV R C p' n cap', .bool true]) ∧ MxI w' R C p' n cap' (fun i k => a i k + b i k) ∧ Bl w w' := by
  refine (mAdd_any R C p q n cap cap2 _ _ w hx hy).mono ?_
  rintro e w' ⟨p', cap', rfl, h, hb'⟩
  refine ⟨p', cap', rfl, h.congr (fun i k hi hk => ?_), hb'⟩
  have h1 := ha i k hi hk
  have h2 := hb i k hi hk
  exact add_it ⟨by omega, by omega⟩ ⟨by omega, by omega⟩ ⟨by omega, by omega⟩
theorem sub6_any {A B : Int} (R C : Nat) (p q : Option Addr) (n cap cap2 : Nat) (a b : Nat → Nat → Int) (w : World) (hx : MxI w R C p n cap a) (hy : MxI w R C q n cap2 b) (ha : Sm2 A R C a) (hb : Sm2 B R C b) (hA : A ≤ 100000000) (hB : B ≤ 100000000) :
    Calls Try.prog 55 #[mV R C p n cap, mV R C q n cap2] w fun e w' => ∃ p' cap', e = .returned (.tuple #[mV R C p' n cap', .bool true]) ∧ MxI w' R C p' n cap' (fun i k => a i k - b i k) ∧ Bl w w' := by
  refine (mSub_any R C p q n cap cap2 _ _ w hx hy).mono ?_
  rintro e w' ⟨p', cap', rfl, h, hb'⟩
  refine ⟨p', cap', rfl, h.congr (fun i k hi hk => ?_), hb'⟩
  have h1 := ha i k hi hk
  have h2 := hb i k hi hk
  exact sub_it ⟨by omega, by omega⟩ ⟨by omega, by omega⟩ ⟨by omega, by omega⟩
/-- A product with a sum is the sum of both products. -/
theorem mulI_add (M : Nat) (a b c : Nat → Nat → Int) (i k : Nat) : mulI M a (fun i k => b i k + c i k) i k = mulI M a b i k + mulI M a c i k := by
  induction M with
  | zero => simp [mulI_zero]
  | succ M ih => rw [mulI_succ, mulI_succ, mulI_succ, ih, Int.mul_add]; omega
/-- A product with two beside one another is both products beside one another. -/
theorem mulI_beside (M D : Nat) (a b c : Nat → Nat → Int) (i k : Nat) : mulI M a (besideM D b c) i k = besideM D (mulI M a b) (mulI M a c) i k := by
  unfold besideM
  by_cases h : k < D
  · rw [if_pos h]
    induction M with
    | zero => rfl
    | succ M ih => rw [mulI_succ, mulI_succ, ih, if_pos h]
  · rw [if_neg h]
    induction M with
    | zero => rfl
    | succ M ih => rw [mulI_succ, mulI_succ, ih, if_neg h]
theorem sm2_add {A B : Int} {R C : Nat} {a b : Nat → Nat → Int} (ha : Sm2 A R C a) (hb : Sm2 B R C b) : Sm2 (A + B) R C (fun i k => a i k + b i k) := fun i k hi hk => by
  have h1 := ha i k hi hk
  have h2 := hb i k hi hk
  show -(A + B) ≤ a i k + b i k ∧ a i k + b i k ≤ A + B
  exact ⟨by omega, by omega⟩
theorem sm2_beside {A : Int} {R C D : Nat} {a b : Nat → Nat → Int} (ha : Sm2 A R C a) (hb : Sm2 A R D b) : Sm2 A R (C + D) (besideM C a b) := fun i k hi hk => by
  unfold besideM
  by_cases h : k < C
  · rw [if_pos h]; exact ha i k hi h
  · rw [if_neg h]; exact hb i _ hi (by omega)
theorem sm2_mul {A B : Int} {R M D : Nat} {a b : Nat → Nat → Int} (hA : 0 ≤ A) (hB : 0 ≤ B) (ha : Sm2 A R M a) (hb : Sm2 B M D b) : Sm2 (A * B * M) R D (mulI M a b) := fun i k hi hk => mulI_bound hA hB ha hb hi hk M (Nat.le_refl _)
theorem sm2_le {A B : Int} {R C : Nat} {a : Nat → Nat → Int} (ha : Sm2 A R C a) (h : A ≤ B) : Sm2 B R C a := fun i k hi hk => by
  have h1 := ha i k hi hk
  exact ⟨by omega, by omega⟩
/-- Alike, of two matrices of the same whole numbers. -/
theorem alike6_any (R C : Nat) (p q : Option Addr) (n cap cap2 : Nat) (a b : Nat → Nat → Int) (w : World) (hx : MxI w R C p n cap a) (hy : MxI w R C q n cap2 b) (e : ∀ i k, i < R → k < C → a i k = b i k) :
    Calls Try.prog 22 #[mV R C p n cap, mV R C q n cap2] w fun e w' => e = .returned (.bool true) ∧ Bl w w' := by
  have hy' := hy.congr (g := fun i k => itF (a i k)) (fun i k hi hk => by rw [e i k hi hk])
  exact alike_any R C p q n cap cap2 _ w hx.2.2 hy'.2.2 (by rw [mk_len, hx.2.1]) (by rw [hx.2.1]; have := hx.1.lt; omega)
end Go.Proofs.Ythnadgbloamlaaa

/- JosephStill in the case's own words: what a tick of the unit and a measurement of nothing leave. Mathematics alone. -/
namespace Go.Proofs.Ythnadgbloamlaaa
open Go.RowKit
set_option linter.unusedSimpArgs false
set_option linter.unusedVariables false

theorem getD_sml9 {A : Int} {l : List Int} (h : Sml A l) (hA : 0 ≤ A) (j : Nat) : -A ≤ l.getD j 0 ∧ l.getD j 0 ≤ A := by
  rw [List.getD_eq_getElem?_getD]
  cases e : l[j]? with
  | none => simp; omega
  | some x => exact h x (List.mem_of_getElem? e)
theorem zero_ofL9 (m N i k : Nat) : ofL m (linJ N fun _ => (0 : Int)) i k = 0 := by
  unfold ofL
  rw [List.getD_eq_getElem?_getD]
  cases e : (linJ N fun _ => (0 : Int))[i * m + k]? with
  | none => rfl
  | some x =>
    have := List.mem_of_getElem? e
    obtain ⟨_, _, rfl⟩ := List.mem_map.1 this
    rfl
structure Still9 (m N : Nat) (X Ro : List Int) (r z : Int) : Prop where
  app : ∀ i, i < m → appJ kdF m (fun i k => wholeF (unitI i k)) (fun i => wholeF (X.getD i 0)) i = wholeF (X.getD i 0)
  pred : ∀ i k, i < m → k < m → predJ kdF m (fun i k => wholeF (unitI i k)) (squareJ kdF m fun i k => wholeF (ofL m Ro i k)) (fun i k => wholeF (ofL m (linJ N fun _ => (0 : Int)) i k)) i k = squareJ kdF m (fun i k => wholeF (ofL m Ro i k)) i k
  spread : spreadJ kdF m (squareJ kdF m fun i k => wholeF (ofL m Ro i k)) (fun _ => wholeF 0) (newR r 1) = newR r 1
  surp : surpJ kdF m (fun i => wholeF (X.getD i 0)) (fun _ => wholeF 0) (newR z 1) = newR z 1
  x : ∀ i, i < m → upXJ kdF m (fun i => wholeF (X.getD i 0)) (squareJ kdF m fun i k => wholeF (ofL m Ro i k)) (fun _ => wholeF 0) (newR r 1) (newR z 1) i = wholeF (X.getD i 0)
  p : ∀ i k, i < m → k < m → upPJ kdF (fun i k => wholeF (unitI i k)) m (squareJ kdF m fun i k => wholeF (ofL m Ro i k)) (fun _ => wholeF 0) (newR r 1) i k = squareJ kdF m (fun i k => wholeF (ofL m Ro i k)) i k
theorem still9 {m N : Nat} {X Ro : List Int} {r z : Int} (m3 : m ≤ 3) (sx : Sml 5 X) (sro : Sml 5 Ro) (r1 : 1 ≤ r) (r5 : r ≤ 5) (z1 : -5 ≤ z) (z5 : z ≤ 5) : Still9 m N X Ro r z := by
  have ha : Sm2 5 m m (ofL m Ro) := fun i k _ _ => getD_sml9 sro (by omega) _
  have hat : Sm2 5 m m (fun i k => ofL m Ro k i) := fun i k _ _ => getD_sml9 sro (by omega) _
  have wo : ∀ i k, wholeF (ofL m Ro i k) = itF (ofL m Ro i k) := fun i k => whole_it (by have := getD_sml9 sro (by omega) (i * m + k); exact ⟨by unfold ofL; omega, by unfold ofL; omega⟩)
  have hm : Sm2 (5 * 5 * m) m m (mulI m (ofL m Ro) fun i k => ofL m Ro k i) := sm2_mul (by omega) (by omega) ha hat
  have hs : Sm2 75 m m (mirM (mulI m (ofL m Ro) fun i k => ofL m Ro k i)) := fun i k hi hk => by
    have := hm (max i k) (min i k) (by omega) (by omega)
    unfold mirM
    omega
  have hsym : ∀ i k, i < m → k < m → mirM (mulI m (ofL m Ro) fun i k => ofL m Ro k i) i k = mirM (mulI m (ofL m Ro) fun i k => ofL m Ro k i) k i := fun i k _ _ => by
    unfold mirM
    rw [Nat.max_comm, Nat.min_comm]
  have hP : ∀ i k, i < m → k < m → squareJ kdF m (fun i k => wholeF (ofL m Ro i k)) i k = itF (mirM (mulI m (ofL m Ro) fun i k => ofL m Ro k i) i k) := fun i k hi hk => by
    unfold squareJ mirM
    rw [mulK_congr kdF (f' := fun i k => itF (ofL m Ro i k)) (g' := fun i k => itF (ofL m Ro k i)) (fun c _ => wo _ _) (fun c _ => wo _ _)]
    exact mulK_it ha hat (by omega) (by omega) (by omega) (by omega) (by omega) (by omega)
  have hX : ∀ i, i < m → wholeF (X.getD i 0) = itF (X.getD i 0) := fun i _ => whole_it (by have := getD_sml9 sx (by omega) i; exact ⟨by omega, by omega⟩)
  have hx : ∀ i, i < m → -75 ≤ X.getD i 0 ∧ X.getD i 0 ≤ 75 := fun i _ => by have := getD_sml9 sx (by omega) i; omega
  have hu : ∀ i k, i < m → k < m → wholeF (unitI i k) = itF (unitI i k) := fun i k _ _ => whole_it (by unfold unitI; by_cases e : i = k <;> simp [e] <;> exact ⟨by omega, by omega⟩)
  have h0 : wholeF 0 = itF 0 := whole_it wh0
  have hr : newR r 1 = itF r := new_it ⟨by omega, by omega⟩
  have hz : newR z 1 = itF z := new_it ⟨by omega, by omega⟩
  have S := still_up (n := m) (r := r) (z := z) hs hsym hx (by omega) (A := 75) (by omega) (by omega) (by omega) (one := fun i k => wholeF (unitI i k)) hu hP hX (h := fun _ => wholeF 0) (fun _ _ => h0)
  refine ⟨fun i hi => ?_, fun i k hi hk => ?_, ?_, ?_, fun i hi => ?_, fun i k hi hk => ?_⟩
  · rw [hX i hi]
    exact still_app hx (by omega) (by omega) hu hX hi
  · rw [hP i k hi hk]
    exact still_pred hs hsym (by omega) (by omega) hu hP (fun i k _ _ => by rw [zero_ofL9]; exact h0) hi hk
  · rw [hr]; exact S.spread
  · rw [hz]; exact S.surp
  · rw [hr, hz, hX i hi]; exact S.x i hi
  · rw [hr, hP i k hi hk]; exact S.p i k hi hk
end Go.Proofs.Ythnadgbloamlaaa

/- The walk of JosephStill. Our own tool writes it. -/
namespace Go.Proofs.Ythnadgbloamlaaa
open Go.RowKit
set_option linter.unusedSimpArgs false
set_option linter.unusedVariables false

theorem Try.info_K9 : (Try.prog.info? 3).map (fun i => (i.zero, i.size, i.bytes)) = some (some (.int .i64 0), 1, 8) := by kernel_rfl
theorem Try.under_K9 : Try.prog.underlying 22 = some (.slice 3) := by kernel_rfl
theorem make_zero9 (n : Nat) (hn : n ≤ 1000) (u : World) : ∃ u', (Instr.makeSlice 22 (.int .i64 n) (.int .i64 n)).run Try.prog u = .ok (.slice (some ⟨u.heap.size, 0, none⟩) n n) u' ∧ Rq 1 cI u' (.slice (some ⟨u.heap.size, 0, none⟩) n n) (linJ n fun _ => (0 : Int)) ∧ Bl u u' := by
  obtain ⟨i0, hi, hz0, hz1, hz2⟩ := info_parts Try.info_K9
  obtain ⟨u', h1, h2, h3⟩ := run_makeSlice_full (P := Try.prog) (w := u) u.heap.size 22 3 i0 (.int .i64 0) 1 Try.under_K9 hi hz0 hz1 .i64 .i64 n (by omega) (by rw [hz2]; omega) (by unfold maxLen; omega) (Nat.le_refl _)
  refine ⟨u', h1, ?_, (Bl.refl u).grown h3 (Nat.le_refl _) (fun k e => by cases e)⟩
  have e : (madeCells (Value.cells (.int .i64 0)) (n * 1)).toList = (linJ n fun _ => (0 : Int)).flatMap cI := by
    rw [show (linJ n fun _ => (0 : Int)).flatMap cI = (linJ n fun _ => (0 : Int)).map (fun x => (.int .i64 x : Value)) from flatI_map _, Nat.mul_one]
    rw [show (linJ n fun _ => (0 : Int)) = List.replicate n 0 from by unfold linJ; rw [List.map_const']; simp, List.map_replicate]
    exact toList_madeCells_one _ _
  rw [e] at h2
  have h4 := Rw.of_own (s := 1) (c := cI) (fun _ => rfl) (xs := linJ n fun _ => (0 : Int)) (by rw [linJ_len]; exact h2)
  exact h4.q
theorem but3k (u : World) (b : Nat) (v0 v1 v2 : Value) : But (fun i => i = b) u (((u.setCell ⟨b, 0, none⟩ v0).setCell ⟨b, 1, none⟩ v1).setCell ⟨b, 2, none⟩ v2) := ((but_cell1 (S := fun i => i = b) rfl _ _ _).trans (but_cell1 (S := fun i => i = b) rfl _ _ _)).trans (but_cell1 (S := fun i => i = b) rfl _ _ _)
theorem mx_congr9 {α : Type} {s : Nat} {c : α → List Value} {w : World} {R C : Nat} {p : Option Addr} {n cap : Nat} {f g : Nat → Nat → α} (h : Mx s c w R C p n cap f) (e : ∀ i k, i < R → k < C → f i k = g i k) : Mx s c w R C p n cap g := ⟨h.1, h.2.1, by rw [← mk_congr e]; exact h.2.2⟩
set_option maxRecDepth 100000 in
set_option maxHeartbeats 16000000 in
theorem walk_JosephStill (n r z : Int) (vx vr vf vg vh : Value) (X Ro Fm Gm H : List Int) (w : World) (hX : Rq 1 cI w vx X) (hR : Rq 1 cI w vr Ro) (hF : Rq 1 cI w vf Fm) (hG : Rq 1 cI w vg Gm) (hH : Rq 1 cI w vh H) :
    Calls Try.prog 4 #[.agg #[.int .i64 n, vx, vr, vf, vg, vh, .int .i64 r, .int .i64 z]] w fun e w' => e = .returned (.bool true) ∧ Bl w w' := by
  have fm : Try.prog.follows .mixedOrders = true := by kernel_rfl
  have egW := enters_of Try.func9 (by kernel_rfl) rfl
  have egU := enters_of Try.func10 (by kernel_rfl) rfl
  have egQ := enters_of Try.func11 (by kernel_rfl) rfl
  have egS := enters_of Try.func8 (by kernel_rfl) rfl
  have egM := enters_of Try.func20 (by kernel_rfl) rfl
  have AW := hideP awake9_any
  obtain ⟨px, cx, rfl, _, _⟩ := hX.cut
  obtain ⟨pr, cr, rfl, _, _⟩ := hR.cut
  obtain ⟨pf, cf, rfl, _, _⟩ := hF.cut
  obtain ⟨pg, cg, rfl, _, _⟩ := hG.cut
  obtain ⟨ph, ch, rfl, _, _⟩ := hH.cut
  obtain ⟨lx, hlx⟩ : ∃ l, l = X.length := ⟨_, rfl⟩
  obtain ⟨lr, hlr⟩ : ∃ l, l = Ro.length := ⟨_, rfl⟩
  obtain ⟨lf, hlf⟩ : ∃ l, l = Fm.length := ⟨_, rfl⟩
  obtain ⟨lg, hlg⟩ : ∃ l, l = Gm.length := ⟨_, rfl⟩
  obtain ⟨lh, hlh⟩ : ∃ l, l = H.length := ⟨_, rfl⟩
  rw [← hlx] at hX
  rw [← hlr] at hR
  rw [← hlf] at hF
  rw [← hlg] at hG
  rw [← hlh] at hH
  rw [← hlx, ← hlr, ← hlf, ← hlg, ← hlh]
  obtain ⟨W, hW⟩ : ∃ W, W = w.alloc (.cells #[.int .i64 n, .slice px lx cx, .slice pr lr cr, .slice pf lf cf, .slice pg lg cg, .slice ph lh ch, .int .i64 r, .int .i64 z] 24) := ⟨_, rfl⟩
  have b0 : Bl w W := by rw [hW]; exact (Bl.refl _).alloc _
  have lt0 : w.heap.size < W.heap.size := by rw [hW]; simp
  have HC := hideP (show ∀ u, Bl W u → u.cell? ⟨w.heap.size, 0, none⟩ = some (.int .i64 n) ∧ u.cell? ⟨w.heap.size, 1, none⟩ = some (.slice px lx cx) ∧ u.cell? ⟨w.heap.size, 2, none⟩ = some (.slice pr lr cr) ∧ u.cell? ⟨w.heap.size, 3, none⟩ = some (.slice pf lf cf) ∧ u.cell? ⟨w.heap.size, 4, none⟩ = some (.slice pg lg cg) ∧ u.cell? ⟨w.heap.size, 5, none⟩ = some (.slice ph lh ch) ∧ u.cell? ⟨w.heap.size, 6, none⟩ = some (.int .i64 r) ∧ u.cell? ⟨w.heap.size, 7, none⟩ = some (.int .i64 z) from fun u hu => by
    refine ⟨?_, ?_, ?_, ?_, ?_, ?_, ?_, ?_⟩ <;> (rw [bl_cell hu _ _ lt0, hW]; simp [go_sem]))
  have FE := hideP (few9_any n r z px pr pf pg ph lx cx lr cr lf cf lg cg lh ch X Ro Fm Gm H W (hX.later b0) (hR.later b0) (hF.later b0) (hG.later b0) (hH.later b0) hlx.symm hlr.symm hlf.symm hlg.symm hlh.symm)
  have HW := hideP hW
  have HXR0 := hideP hX
  have HHR0 := hideP hH
  have HRR := hideP hR
  have HFR := hideP hF
  have HGR := hideP hG
  have hlx' := hideP hlx.symm
  have hlr' := hideP hlr.symm
  have hlf' := hideP hlf.symm
  have hlg' := hideP hlg.symm
  have hlh' := hideP hlh.symm
  clear hW hX hR hF hG hH hlx hlr hlf hlg hlh
  go_enter Try.func4, Try.ntmps4
  go_wp2_with fail
  rw [← HW.out]
  refine FE.out.mono ?_
  rintro e w1 ⟨b1, rfl, hb1, h1⟩
  clear FE
  cases b1 with
  | false =>
    go_wp2_with fail
    refine (AW.out _).mono ?_
    rintro e w99 ⟨rfl, h99⟩
    go_wp2
    go_ret
    exact ⟨rfl, (b0.trans h1).trans h99⟩
  | true =>
    obtain ⟨m, rfl, fw⟩ := hb1 rfl
    clear hb1
    obtain ⟨N, hN⟩ : ∃ N, N = m * m := ⟨_, rfl⟩
    obtain rfl : lx = m := by rw [← hlx'.out]; exact fw.x
    obtain ⟨m, rfl⟩ : ∃ m, m = lx := ⟨_, rfl⟩
    obtain rfl : lh = m := by rw [← hlh'.out]; exact fw.h
    obtain ⟨m, rfl⟩ : ∃ m, m = lh := ⟨_, rfl⟩
    obtain rfl : lr = N := by rw [← hlr'.out, hN]; exact fw.ro
    obtain ⟨N, rfl⟩ : ∃ N, N = lr := ⟨_, rfl⟩
    obtain rfl : lf = N := by rw [← hlf'.out, hN]; exact fw.f
    obtain ⟨N, rfl⟩ : ∃ N, N = lf := ⟨_, rfl⟩
    obtain rfl : lg = N := by rw [← hlg'.out, hN]; exact fw.g
    obtain ⟨N, rfl⟩ : ∃ N, N = lg := ⟨_, rfl⟩
    have m1 := fw.m1
    have m3 := fw.m3
    have hm4 : m ≤ 4 := by omega
    have hN9 : N ≤ 9 := by rw [hN]; exact Nat.mul_le_mul m3 m3
    have mN : m ≤ N := by rw [hN]; exact Nat.le_mul_of_pos_left m m1
    have HNN := hideP hN
    have HD := hideP (dim_le4 m1 hm4)
    have HFW := hideP fw
    have HXR := hideP (show Rq 1 cI w (.slice px m cx) (linJ m fun i => X.getD i 0) from by rw [← linJ_of (n := m) 0 X hlx'.out]; exact HXR0.out)
    have HHR := hideP (show Rq 1 cI w (.slice ph m ch) (linJ m fun i => H.getD i 0) from by rw [← linJ_of (n := m) 0 H hlh'.out]; exact HHR0.out)
    have b1w : Bl W w1 := h1
    clear hN fw HHR0
    obtain ⟨Rr, hRr⟩ : ∃ x : Fr, x = newR r 1 := ⟨_, rfl⟩
    obtain ⟨Zz, hZz⟩ : ∃ x : Fr, x = newR z 1 := ⟨_, rfl⟩
    have HRr := hideP hRr
    have HZz := hideP hZz
    have HS9 := hideP (still9 (N := N) m3 HFW.out.sx HFW.out.sro HFW.out.r1 HFW.out.r5 HFW.out.z1 HFW.out.z5)
    have MM9 : (m : Int) * (m : Int) = (N : Int) := by rw [HNN.out]; simp
    have WN9 : IntKind.i64.wrap (N : Int) = N := wrapS7 (by omega) (by omega)
    have n1 : ¬ ((m : Int) < 1) := by omega
    have n3 : ¬ ((m : Int) > 3) := by omega
    have n3' : ¬ (3 < (m : Int)) := by omega
    clear hRr hZz
    obtain ⟨c0, c1, c2, c3, c4, c5, c6, c7⟩ := HC.out w1 (b1w)
    have ST := hideP (start9_any m N r z px pr cx cr (.slice pf N cf) (.slice pg N cg) (.slice ph m ch) X Ro w1 rfl rfl rfl (HXR0.out.later (b0.trans b1w)) (HRR.out.later (b0.trans b1w)) hlx'.out hlr'.out m1 m3 HNN.out)
    go_wp2_with fail
    refine ST.out.mono ?_
    rintro e w2 ⟨q2, cq2, p2, c2', rfl, ⟨hR, hM⟩, h2⟩
    clear c0 c1 c2 c3 c4 c5 c6 c7
    obtain ⟨W2, hW2⟩ : ∃ W2, W2 = w2.alloc (.cells #[.slice q2 m cq2, .int .i64 m, .int .i64 m, .slice p2 N c2'] 31) := ⟨_, rfl⟩
    have b2 : Bl w2 W2 := by rw [hW2]; exact (Bl.refl _).alloc _
    have k2 : SBox W2 w2.heap.size q2 m cq2 m m p2 N c2' := by rw [hW2]; exact SBox.new w2 _ _ _ _ _ _ _ _ _
    have HR2 := hideP (hR.later b2)
    have HM2 := hideP (Mx.later hM b2)
    have b2w : Bl W W2 := b1w.trans (h2.trans b2)
    have B2 : Bl w W2 := b0.trans b2w
    have HW2 := hideP hW2
    clear hW2 hR hM ST
    obtain ⟨c0, c1, c2, c3, c4, c5, c6, c7⟩ := HC.out W2 (b2w)
    rw [HW2.out] at c0 c1 c2 c3 c4 c5 c6 c7
    have UN := hideP (mUnitF m N m1 (by omega) HNN.out W2)
    go_wp2_with fail
    rw [← HW2.out]
    refine UN.out.mono ?_
    rintro e w3 ⟨p3, c3', rfl, hM, h3⟩
    clear c0 c1 c2 c3 c4 c5 c6 c7
    obtain ⟨W3, hW3⟩ : ∃ W3, W3 = w3.alloc (.cells #[.int .i64 m, .int .i64 m, .slice p3 N c3'] 29) := ⟨_, rfl⟩
    have b3 : Bl w3 W3 := by rw [hW3]; exact (Bl.refl _).alloc _
    have k3 : MBox W3 w3.heap.size m m p3 N c3' := by rw [hW3]; exact MBox.new w3 _ _ _ _ _ _
    have HM3 := hideP (Mx.later hM b3)
    have b23 : Bl W2 W3 := h3.trans b3
    have b3w : Bl W W3 := b2w.trans b23
    have HW3 := hideP hW3
    clear hW3 hM UN
    go_wp2_with fail
    rw [← HW3.out]
    refine (wpIn_wide (n := 8)).1 (region_q fm [some 37, some 38, some 39, some 40, some 41, some 42, some 43, some 44, some 45, some 46, some 47, some 36, some 48, some 49, some 6, none, some 7] (fun j => j == 13 || j == 16) 15 (by kernel_rfl) (by rfl)
          (fun j v u => match j with | 0 => v = .pointer (some ⟨w.heap.size, 0, none⟩) | 1 => v = .int .i64 m | 2 => v = .pointer (some ⟨w.heap.size, 0, none⟩) | 3 => v = .int .i64 m | 4 => v = .pointer (some ⟨w.heap.size, 0, none⟩) | 5 => v = .int .i64 m | 6 => v = .pointer (some ⟨w.heap.size, 0, none⟩) | 7 => v = .int .i64 m | 8 => v = .int .i64 N | 9 => ∃ g, v = .slice (some ⟨g, 0, none⟩) N N ∧ Rq 1 cI u (.slice (some ⟨g, 0, none⟩) N N) (linJ N fun _ => (0 : Int)) | 10 => ∃ p' c', v = .tuple #[mV m m p' N c', .bool true] ∧ Mx 3 cellsF u m m p' N c' (fun i k => wholeF (ofL m (linJ N fun _ => (0 : Int)) i k)) | 11 => ∃ p' c', v = .tuple #[mV m m p' N c', .bool true] ∧ Mx 3 cellsF u m m p' N c' (fun i k => wholeF (ofL m (linJ N fun _ => (0 : Int)) i k)) | 12 => ∃ p' c', v = mV m m p' N c' ∧ Mx 3 cellsF u m m p' N c' (fun i k => wholeF (ofL m (linJ N fun _ => (0 : Int)) i k)) | 13 => v = .bool true | 14 => ∃ b, v = .pointer (some ⟨b, 0, none⟩) ∧ W3.heap.size ≤ b ∧ MBox u b 0 0 none 0 0 ∧ NoB u b | 16 => v = .bool true | _ => False)
          (by
            intro j v u u' hb h
            split at h <;> first | exact h | (obtain ⟨b, e, h1, h2, h3⟩ := h; exact ⟨b, e, h1, h2.later hb, h3.later hb h2.lt⟩) | (obtain ⟨p', c', e, h1⟩ := h; exact ⟨p', c', e, Mx.later h1 hb⟩) | (obtain ⟨g, e, h1⟩ := h; exact ⟨g, e, h1.later hb⟩)) (fun vs u0 u => ∃ b p' c', vs 14 = .pointer (some ⟨b, 0, none⟩) ∧ W3.heap.size ≤ b ∧ MBox u b m m p' N c' ∧ Mx 3 cellsF u m m p' N c' (fun i k => wholeF (ofL m (linJ N fun _ => (0 : Int)) i k)) ∧ Bl W3 u) ?step ?still ?store ?fin)
    case step =>
      intro j o t act u ho hdt hpu hsz hu hfr hin
      have hj : j < 17 := (Array.getElem?_eq_some_iff.1 ho).1
      obtain ⟨c0, c1, c2, c3, c4, c5, c6, c7⟩ := HC.out _ (b3w.trans hu)
      rcases (by omega : j = 0 ∨ j = 1 ∨ j = 2 ∨ j = 3 ∨ j = 4 ∨ j = 5 ∨ j = 6 ∨ j = 7 ∨ j = 8 ∨ j = 9 ∨ j = 10 ∨ j = 11 ∨ j = 12 ∨ j = 13 ∨ j = 14 ∨ j = 15 ∨ j = 16) with rfl | rfl | rfl | rfl | rfl | rfl | rfl | rfl | rfl | rfl | rfl | rfl | rfl | rfl | rfl | rfl | rfl
      · simp only [List.getElem?_toArray, List.getElem?_cons_zero, List.getElem?_cons_succ, Option.some.injEq] at ho
        subst ho
        obtain rfl := Option.some.inj hdt
        have i1 : act.eval (.tmp (1 : Nat)) = .pointer (some ⟨w.heap.size, 0, none⟩) := hfr 1 (by decide)
        exact plain_wp (by intro c h; cases h) (fun _ _ => trivial) (by simp only [execOp, i1, evalC, evalF, evalG]; simp [go_sem, c0]) ⟨_, rfl, rfl, Bl.refl _⟩
      · simp only [List.getElem?_toArray, List.getElem?_cons_zero, List.getElem?_cons_succ, Option.some.injEq] at ho
        subst ho
        obtain rfl := Option.some.inj hdt
        have i37 : (act.eval (.tmp (37 : Nat))) = .pointer (some ⟨w.heap.size, 0, none⟩) := hin ⟨0, .data⟩ (by simp) rfl 37 rfl
        exact plain_wp (by intro c h; cases h) (fun _ _ => trivial) (by simp only [execOp, i37, evalC, evalF, evalG]; simp [go_sem, c0]) ⟨_, rfl, rfl, Bl.refl _⟩
      · simp only [List.getElem?_toArray, List.getElem?_cons_zero, List.getElem?_cons_succ, Option.some.injEq] at ho
        subst ho
        obtain rfl := Option.some.inj hdt
        have i1 : act.eval (.tmp (1 : Nat)) = .pointer (some ⟨w.heap.size, 0, none⟩) := hfr 1 (by decide)
        exact plain_wp (by intro c h; cases h) (fun _ _ => trivial) (by simp only [execOp, i1, evalC, evalF, evalG]; simp [go_sem, c0]) ⟨_, rfl, rfl, Bl.refl _⟩
      · simp only [List.getElem?_toArray, List.getElem?_cons_zero, List.getElem?_cons_succ, Option.some.injEq] at ho
        subst ho
        obtain rfl := Option.some.inj hdt
        have i39 : (act.eval (.tmp (39 : Nat))) = .pointer (some ⟨w.heap.size, 0, none⟩) := hin ⟨2, .data⟩ (by simp) rfl 39 rfl
        exact plain_wp (by intro c h; cases h) (fun _ _ => trivial) (by simp only [execOp, i39, evalC, evalF, evalG]; simp [go_sem, c0]) ⟨_, rfl, rfl, Bl.refl _⟩
      · simp only [List.getElem?_toArray, List.getElem?_cons_zero, List.getElem?_cons_succ, Option.some.injEq] at ho
        subst ho
        obtain rfl := Option.some.inj hdt
        have i1 : act.eval (.tmp (1 : Nat)) = .pointer (some ⟨w.heap.size, 0, none⟩) := hfr 1 (by decide)
        exact plain_wp (by intro c h; cases h) (fun _ _ => trivial) (by simp only [execOp, i1, evalC, evalF, evalG]; simp [go_sem, c0]) ⟨_, rfl, rfl, Bl.refl _⟩
      · simp only [List.getElem?_toArray, List.getElem?_cons_zero, List.getElem?_cons_succ, Option.some.injEq] at ho
        subst ho
        obtain rfl := Option.some.inj hdt
        have i41 : (act.eval (.tmp (41 : Nat))) = .pointer (some ⟨w.heap.size, 0, none⟩) := hin ⟨4, .data⟩ (by simp) rfl 41 rfl
        exact plain_wp (by intro c h; cases h) (fun _ _ => trivial) (by simp only [execOp, i41, evalC, evalF, evalG]; simp [go_sem, c0]) ⟨_, rfl, rfl, Bl.refl _⟩
      · simp only [List.getElem?_toArray, List.getElem?_cons_zero, List.getElem?_cons_succ, Option.some.injEq] at ho
        subst ho
        obtain rfl := Option.some.inj hdt
        have i1 : act.eval (.tmp (1 : Nat)) = .pointer (some ⟨w.heap.size, 0, none⟩) := hfr 1 (by decide)
        exact plain_wp (by intro c h; cases h) (fun _ _ => trivial) (by simp only [execOp, i1, evalC, evalF, evalG]; simp [go_sem, c0]) ⟨_, rfl, rfl, Bl.refl _⟩
      · simp only [List.getElem?_toArray, List.getElem?_cons_zero, List.getElem?_cons_succ, Option.some.injEq] at ho
        subst ho
        obtain rfl := Option.some.inj hdt
        have i43 : (act.eval (.tmp (43 : Nat))) = .pointer (some ⟨w.heap.size, 0, none⟩) := hin ⟨6, .data⟩ (by simp) rfl 43 rfl
        exact plain_wp (by intro c h; cases h) (fun _ _ => trivial) (by simp only [execOp, i43, evalC, evalF, evalG]; simp [go_sem, c0]) ⟨_, rfl, rfl, Bl.refl _⟩
      · simp only [List.getElem?_toArray, List.getElem?_cons_zero, List.getElem?_cons_succ, Option.some.injEq] at ho
        subst ho
        obtain rfl := Option.some.inj hdt
        have i42 : (act.eval (.tmp (42 : Nat))) = .int .i64 m := hin ⟨5, .data⟩ (by simp) rfl 42 rfl
        have i44 : (act.eval (.tmp (44 : Nat))) = .int .i64 m := hin ⟨7, .data⟩ (by simp) rfl 44 rfl
        exact plain_wp (by intro c h; cases h) (fun _ _ => trivial) (by simp only [execOp, i42, i44, evalC, evalF, evalG]; simp [go_sem, MM9, WN9]) ⟨_, rfl, rfl, Bl.refl _⟩
      · simp only [List.getElem?_toArray, List.getElem?_cons_zero, List.getElem?_cons_succ, Option.some.injEq] at ho
        subst ho
        obtain rfl := Option.some.inj hdt
        have i45 : (act.eval (.tmp (45 : Nat))) = .int .i64 N := hin ⟨8, .data⟩ (by simp) rfl 45 rfl
        obtain ⟨u', hr, hq, hb⟩ := make_zero9 N (by omega) u
        exact plain_wp (by intro c h; cases h) (fun _ _ => trivial) (w' := u') (v := .slice (some ⟨u.heap.size, 0, none⟩) N N) (by simp only [execOp, i45]; rw [Sem.run_bind, hr]; rfl) ⟨_, rfl, ⟨u.heap.size, rfl, hq⟩, hb⟩
      · simp only [List.getElem?_toArray, List.getElem?_cons_zero, List.getElem?_cons_succ, Option.some.injEq] at ho
        subst ho
        obtain rfl := Option.some.inj hdt
        have i38 : (act.eval (.tmp (38 : Nat))) = .int .i64 m := hin ⟨1, .data⟩ (by simp) rfl 38 rfl
        have i40 : (act.eval (.tmp (40 : Nat))) = .int .i64 m := hin ⟨3, .data⟩ (by simp) rfl 40 rfl
        have i46 : ∃ g, (act.eval (.tmp (46 : Nat))) = .slice (some ⟨g, 0, none⟩) N N ∧ Rq 1 cI u (.slice (some ⟨g, 0, none⟩) N N) (linJ N fun _ => (0 : Int)) := hin ⟨9, .data⟩ (by simp) rfl 46 rfl
        obtain ⟨g0, e0, hg⟩ := i46
        refine enter_wp 20 #[.int .i64 m, .int .i64 m, .slice (some ⟨g0, 0, none⟩) N N] (by intro c h; cases h) (fun _ _ => trivial) (by simp only [execOp, evalC, evalF, evalG, resolve, i38, i40, e0, List.map_toArray, List.map_cons, List.map_nil]; simp [invoke, egM, Result.andThen, go_sem]) (by intro h; cases h) (callsIn_wide.2 (whole9F_call m m (some ⟨g0, 0, none⟩) N N (linJ N fun _ => (0 : Int)) u hg HD.out HNN.out (linJ_len _ _))) ?_
        rintro e w' ⟨p', c', rfl, hM, hb⟩
        exact ⟨_, rfl, _, rfl, ⟨p', c', rfl, hM⟩, hb⟩
      · simp only [List.getElem?_toArray, List.getElem?_cons_zero, List.getElem?_cons_succ, Option.some.injEq] at ho
        subst ho
        obtain rfl := Option.some.inj hdt
        have i47 : ∃ p' c', (act.eval (.tmp (47 : Nat))) = .tuple #[mV m m p' N c', .bool true] ∧ Mx 3 cellsF u m m p' N c' (fun i k => wholeF (ofL m (linJ N fun _ => (0 : Int)) i k)) := hin ⟨10, .data⟩ (by simp) rfl 47 rfl
        obtain ⟨p0, c0', e1, hq⟩ := i47
        exact plain_wp (by intro c h; cases h) (fun _ _ => trivial) (by simp only [execOp, e1]; simp [go_sem]) ⟨_, rfl, ⟨p0, c0', rfl, hq⟩, Bl.refl _⟩
      · simp only [List.getElem?_toArray, List.getElem?_cons_zero, List.getElem?_cons_succ, Option.some.injEq] at ho
        subst ho
        obtain rfl := Option.some.inj hdt
        have i36 : ∃ p' c', (act.eval (.tmp (36 : Nat))) = .tuple #[mV m m p' N c', .bool true] ∧ Mx 3 cellsF u m m p' N c' (fun i k => wholeF (ofL m (linJ N fun _ => (0 : Int)) i k)) := hin ⟨11, .data⟩ (by simp) rfl 36 rfl
        obtain ⟨p0, c0', e1, hq⟩ := i36
        exact plain_wp (by intro c h; cases h) (fun _ _ => trivial) (by simp only [execOp, e1]; simp [go_sem]) ⟨_, rfl, ⟨p0, c0', rfl, hq⟩, Bl.refl _⟩
      · cases hpu
      · simp only [List.getElem?_toArray, List.getElem?_cons_zero, List.getElem?_cons_succ, Option.some.injEq] at ho
        subst ho
        obtain rfl := Option.some.inj hdt
        exact plain_wp (by intro c h; cases h) (fun _ _ => trivial) (w' := u.alloc (.cells #[.int .i64 0, .int .i64 0, .slice none 0 0] 29)) (v := .pointer (some ⟨u.heap.size, 0, none⟩)) (by simp only [execOp]; simp [go_sem]) ⟨_, rfl, ⟨u.heap.size, rfl, hu.size, MBox.new u _ _ _ _ _ _, noB_new u _⟩, (Bl.refl _).alloc _⟩
      · simp only [List.getElem?_toArray, List.getElem?_cons_zero, List.getElem?_cons_succ, Option.some.injEq] at ho
        subst ho
        cases hdt
      · cases hpu
    case still =>
      intro j o t act u0 u ho hdt hpu hsz hu hfr hin
      have hj : j < 17 := (Array.getElem?_eq_some_iff.1 ho).1
      obtain ⟨c0, c1, c2, c3, c4, c5, c6, c7⟩ := HC.out _ (b3w.trans hu)
      rcases (by omega : j = 0 ∨ j = 1 ∨ j = 2 ∨ j = 3 ∨ j = 4 ∨ j = 5 ∨ j = 6 ∨ j = 7 ∨ j = 8 ∨ j = 9 ∨ j = 10 ∨ j = 11 ∨ j = 12 ∨ j = 13 ∨ j = 14 ∨ j = 15 ∨ j = 16) with rfl | rfl | rfl | rfl | rfl | rfl | rfl | rfl | rfl | rfl | rfl | rfl | rfl | rfl | rfl | rfl | rfl
      · cases hpu
      · cases hpu
      · cases hpu
      · cases hpu
      · cases hpu
      · cases hpu
      · cases hpu
      · cases hpu
      · cases hpu
      · cases hpu
      · cases hpu
      · cases hpu
      · cases hpu
      · simp only [List.getElem?_toArray, List.getElem?_cons_zero, List.getElem?_cons_succ, Option.some.injEq] at ho
        subst ho
        obtain rfl := Option.some.inj hdt
        have i36 : ∃ p' c', (act.eval (.tmp (36 : Nat))) = .tuple #[mV m m p' N c', .bool true] ∧ Mx 3 cellsF u0 m m p' N c' (fun i k => wholeF (ofL m (linJ N fun _ => (0 : Int)) i k)) := hin ⟨11, .data⟩ (by simp) rfl 36 rfl
        obtain ⟨p0, c0', e1, hq⟩ := i36
        exact plain_wp (by intro c h; cases h) (fun _ _ => trivial) (by simp only [execOp, e1]; simp [go_sem]) ⟨_, rfl, rfl, rfl⟩
      · cases hpu
      · cases hpu
      · simp only [List.getElem?_toArray, List.getElem?_cons_zero, List.getElem?_cons_succ, Option.some.injEq] at ho
        subst ho
        obtain rfl := Option.some.inj hdt
        have i49 : (act.eval (.tmp (49 : Nat))) = .bool true := hin ⟨13, .data⟩ (by simp) rfl 49 rfl
        exact plain_wp (by intro c h; cases h) (fun _ _ => trivial) (by simp only [execOp, i49, evalC, evalF, evalG]; simp [go_sem]) ⟨_, rfl, rfl, rfl⟩
    case store =>
      intro o act u vs ho hsz hu hfr hin
      simp only [List.getElem?_toArray, List.getElem?_cons_zero, List.getElem?_cons_succ, Option.some.injEq] at ho
      subst ho
      obtain ⟨i6, k6⟩ : act.eval (.tmp (6 : Nat)) = vs 14 ∧ (∃ b, (vs 14) = .pointer (some ⟨b, 0, none⟩) ∧ W3.heap.size ≤ b ∧ MBox u b 0 0 none 0 0 ∧ NoB u b) := hin 14 6 rfl rfl
      obtain ⟨i48, k48⟩ : act.eval (.tmp (48 : Nat)) = vs 12 ∧ (∃ p' c', (vs 12) = mV m m p' N c' ∧ Mx 3 cellsF u m m p' N c' (fun i k => wholeF (ofL m (linJ N fun _ => (0 : Int)) i k))) := hin 12 48 rfl rfl
      obtain ⟨b, e1, hb, bx, nb⟩ := k6
      obtain ⟨p0, c0', e2, hq⟩ := k48
      rw [e1] at i6
      rw [e2] at i48
      obtain ⟨d0, d1, d2, g0, g1, g2, ltb⟩ := id bx
      exact skip_wp (by intro c h; cases h) (fun _ _ => trivial) (by simp only [execOp, i6, i48]; simp [go_sem, d0, d1, d2, g0, g1, g2]) ⟨rfl, b, p0, c0', e1, hb, bx.fill _ _ _ _ _, Mx.but hq (but3k _ _ _ _ _) (fun g hg => Ne.symm (noB_mx boolF hq nb g hg)), Bl.put3 hu hb _ _ _⟩
    case fin =>
      intro vs vb u0 u hu hin hps
      have a0 := hin 0 37 rfl
      have a1 := hin 1 38 rfl
      have a2 := hin 2 39 rfl
      have a3 := hin 3 40 rfl
      have a4 := hin 4 41 rfl
      have a5 := hin 5 42 rfl
      have a6 := hin 6 43 rfl
      have a7 := hin 7 44 rfl
      have a8 := hin 8 45 rfl
      have a9 := hin 9 46 rfl
      have a10 := hin 10 47 rfl
      have a11 := hin 11 36 rfl
      have a12 := hin 12 48 rfl
      have a13 := hin 13 49 rfl
      have a14 := hin 14 6 rfl
      have a16 := hin 16 7 rfl
      simp only [putL, Act.put, List.setIfInBounds_toArray, List.set_cons_zero, List.set_cons_succ, Nat.zero_add, Nat.reduceAdd, Nat.reduceBEq, Bool.or_false, Bool.or_true, Bool.false_or, Bool.true_or, Bool.false_eq_true, if_false, if_true, reduceIte, Nat.reduceEqDiff, beq_self_eq_true, Bool.or_self] at a0 a1 a2 a3 a4 a5 a6 a7 a8 a9 a10 a11 a12 a13 a14 a16 ⊢
      rw [if_pos (by decide)] at hps
      simp only [a0, a1, a2, a3, a4, a5, a6, a7, a8, a13, a16]
      obtain ⟨b5, p5, c5', eb, hb, k5, hM, hbu⟩ := hps
      simp only [eb]
      obtain ⟨w4, rfl⟩ : ∃ w4, w4 = u := ⟨_, rfl⟩
      have HM5 := hideP hM
      have b34 : Bl W3 w4 := hbu
      clear hM hin
      obtain ⟨s0, s1, s2, s3, _, _, _, _, _⟩ := k2.later (b23.trans b34)
      obtain ⟨y0, y1, y2, _, _, _, _⟩ := k3.later b34
      obtain ⟨z0, z1, z2, _, _, _, _⟩ := id k5
      have PR := hideP (jPredictF m N q2 cq2 (fun i => wholeF (X.getD i 0)) p2 c2' (squareJ kdF m (fun i k => wholeF (ofL m Ro i k))) p3 c3' (fun i k => wholeF (unitI i k)) p5 c5' (fun i k => wholeF (ofL m (linJ N fun _ => (0 : Int)) i k)) w4 (HR2.out.later (b23.trans b34)).q (HM2.out.later (b23.trans b34)) (HM3.out.later b34) HM5.out hm4)
      go_wp2_with fail
      refine PR.out.mono ?_
      rintro e w6 ⟨q6, cq6, p6, c6', rfl, ⟨hR, hM⟩, h6⟩
      clear s0 s1 s2 s3 y0 y1 y2 z0 z1 z2 PR
      obtain ⟨W6, hW6⟩ : ∃ W6, W6 = w6.alloc (.cells #[.slice q6 m cq6, .int .i64 m, .int .i64 m, .slice p6 N c6'] 31) := ⟨_, rfl⟩
      have b6 : Bl w6 W6 := by rw [hW6]; exact (Bl.refl _).alloc _
      have k6 : SBox W6 w6.heap.size q6 m cq6 m m p6 N c6' := by rw [hW6]; exact SBox.new w6 _ _ _ _ _ _ _ _ _
      have HR6 := hideP (hR.later b6)
      have HM6 := hideP (Mx.later hM b6)
      have b46 : Bl w4 W6 := h6.trans b6
      have b26 : Bl W2 W6 := b23.trans (b34.trans b46)
      have b6w : Bl W W6 := b2w.trans b26
      have HW6 := hideP hW6
      clear hW6 hR hM
      go_wp2_with fail
      rw [← HW6.out]
      refine (wpIn_wide (n := 8)).1 (region_u (updF_ok (m) (N) (upXJ kdF m (fun i => wholeF (X.getD i 0)) (squareJ kdF m (fun i k => wholeF (ofL m Ro i k))) (fun _ => wholeF 0) Rr Zz) (upPJ kdF (fun i j => wholeF (unitI i j)) m (squareJ kdF m (fun i k => wholeF (ofL m Ro i k))) (fun _ => wholeF 0) Rr) (surpJ kdF m (fun i => wholeF (X.getD i 0)) (fun _ => wholeF 0) Zz) (spreadJ kdF m (squareJ kdF m (fun i k => wholeF (ofL m Ro i k))) (fun _ => wholeF 0) Rr)) fm [some 58, some 59, some 60, some 61, some 62, some 63, some 64, some 65, some 66, some 67, some 68, some 69, some 57, some 70, some 71, some 72, some 10, some 11, none, none, some 12] 11 (by kernel_rfl) (by rfl) 69 57 70 71 72 10 11 12 rfl
            (fun j v u => match j with | 0 => v = sJ q2 m cq2 m m p2 N c2' | 1 => v = .pointer (some ⟨w.heap.size, 0, none⟩) | 2 => v = .int .i64 m | 3 => ∃ g, v = .slice (some ⟨g, 0, none⟩) m m ∧ Rq 1 cI u (.slice (some ⟨g, 0, none⟩) m m) (linJ m fun _ => (0 : Int)) | 4 => ∃ q c, v = .slice q m c ∧ Rw 3 cellsF u (.slice q m c) (linJ m (fun _ => wholeF 0)) | 5 => v = .pointer (some ⟨w.heap.size, 6, none⟩) | 6 => v = .int .i64 r | 7 => v = frV Rr | 8 => v = .pointer (some ⟨w.heap.size, 7, none⟩) | 9 => v = .int .i64 z | 10 => v = frV Zz | _ => False)
            (by
              intro j v u u' hb h
              split at h <;> first | exact h | (obtain ⟨q, c, e, h1⟩ := h; exact ⟨q, c, e, h1.later hb⟩) | (obtain ⟨g, e, h1⟩ := h; exact ⟨g, e, h1.later hb⟩)) ?step ?call ?mv ?x0 ?x1 ?x2 ?la ?lb ?sa ?sb ?asg ?fin)
      case step =>
        intro j o t act u hjk ho hdt hsz hu hfr hin
        obtain ⟨c0, c1, c2, c3, c4, c5, c6, c7⟩ := HC.out _ (b6w.trans hu)
        rcases (by omega : j = 0 ∨ j = 1 ∨ j = 2 ∨ j = 3 ∨ j = 4 ∨ j = 5 ∨ j = 6 ∨ j = 7 ∨ j = 8 ∨ j = 9 ∨ j = 10) with rfl | rfl | rfl | rfl | rfl | rfl | rfl | rfl | rfl | rfl | rfl
        · simp only [List.getElem?_toArray, List.getElem?_cons_zero, List.getElem?_cons_succ, Option.some.injEq] at ho
          subst ho
          obtain rfl := Option.some.inj hdt
          have i3 : act.eval (.tmp (3 : Nat)) = .pointer (some ⟨w2.heap.size, 0, none⟩) := hfr 3 (by decide)
          obtain ⟨s0, s1, s2, s3, _, _, _, _, _⟩ := k2.later (b26.trans hu)
          exact plain_wp (by intro c h; cases h) (fun _ _ => trivial) (by simp only [execOp, i3, evalC, evalF, evalG]; simp [go_sem, s0, s1, s2, s3]) ⟨_, rfl, rfl, Bl.refl _⟩
        · simp only [List.getElem?_toArray, List.getElem?_cons_zero, List.getElem?_cons_succ, Option.some.injEq] at ho
          subst ho
          obtain rfl := Option.some.inj hdt
          have i1 : act.eval (.tmp (1 : Nat)) = .pointer (some ⟨w.heap.size, 0, none⟩) := hfr 1 (by decide)
          exact plain_wp (by intro c h; cases h) (fun _ _ => trivial) (by simp only [execOp, i1, evalC, evalF, evalG]; simp [go_sem, c0]) ⟨_, rfl, rfl, Bl.refl _⟩
        · simp only [List.getElem?_toArray, List.getElem?_cons_zero, List.getElem?_cons_succ, Option.some.injEq] at ho
          subst ho
          obtain rfl := Option.some.inj hdt
          have i59 : (act.eval (.tmp (59 : Nat))) = .pointer (some ⟨w.heap.size, 0, none⟩) := hin ⟨1, .data⟩ (by simp) rfl 59 rfl
          exact plain_wp (by intro c h; cases h) (fun _ _ => trivial) (by simp only [execOp, i59, evalC, evalF, evalG]; simp [go_sem, c0]) ⟨_, rfl, rfl, Bl.refl _⟩
        · simp only [List.getElem?_toArray, List.getElem?_cons_zero, List.getElem?_cons_succ, Option.some.injEq] at ho
          subst ho
          obtain rfl := Option.some.inj hdt
          have i60 : (act.eval (.tmp (60 : Nat))) = .int .i64 m := hin ⟨2, .data⟩ (by simp) rfl 60 rfl
          obtain ⟨u', hr, hq, hb⟩ := make_zero9 m (by omega) u
          exact plain_wp (by intro c h; cases h) (fun _ _ => trivial) (w' := u') (v := .slice (some ⟨u.heap.size, 0, none⟩) m m) (by simp only [execOp, i60]; rw [Sem.run_bind, hr]; rfl) ⟨_, rfl, ⟨u.heap.size, rfl, hq⟩, hb⟩
        · simp only [List.getElem?_toArray, List.getElem?_cons_zero, List.getElem?_cons_succ, Option.some.injEq] at ho
          subst ho
          obtain rfl := Option.some.inj hdt
          have i61 : ∃ g, (act.eval (.tmp (61 : Nat))) = .slice (some ⟨g, 0, none⟩) m m ∧ Rq 1 cI u (.slice (some ⟨g, 0, none⟩) m m) (linJ m fun _ => (0 : Int)) := hin ⟨3, .data⟩ (by simp) rfl 61 rfl
          obtain ⟨g0, e0, hg⟩ := i61
          refine enter_wp 9 #[.slice (some ⟨g0, 0, none⟩) m m] (by intro c h; cases h) (fun _ _ => trivial) (by simp only [execOp, evalC, evalF, evalG, resolve, e0, List.map_toArray, List.map_cons, List.map_nil]; simp [invoke, egW, Result.andThen, go_sem]) (by intro h; cases h) (callsIn_wide.2 (whole_linF _ m m (fun _ => (0 : Int)) u hg (by omega))) ?_
          rintro e w' ⟨q, c, rfl, hR, hb⟩
          exact ⟨_, rfl, _, rfl, ⟨q, c, rfl, hR⟩, hb⟩
        · simp only [List.getElem?_toArray, List.getElem?_cons_zero, List.getElem?_cons_succ, Option.some.injEq] at ho
          subst ho
          obtain rfl := Option.some.inj hdt
          have i1 : act.eval (.tmp (1 : Nat)) = .pointer (some ⟨w.heap.size, 0, none⟩) := hfr 1 (by decide)
          exact plain_wp (by intro c h; cases h) (fun _ _ => trivial) (by simp only [execOp, i1, evalC, evalF, evalG]; simp [go_sem, c6]) ⟨_, rfl, rfl, Bl.refl _⟩
        · simp only [List.getElem?_toArray, List.getElem?_cons_zero, List.getElem?_cons_succ, Option.some.injEq] at ho
          subst ho
          obtain rfl := Option.some.inj hdt
          have i63 : (act.eval (.tmp (63 : Nat))) = .pointer (some ⟨w.heap.size, 6, none⟩) := hin ⟨5, .data⟩ (by simp) rfl 63 rfl
          exact plain_wp (by intro c h; cases h) (fun _ _ => trivial) (by simp only [execOp, i63, evalC, evalF, evalG]; simp [go_sem, c6]) ⟨_, rfl, rfl, Bl.refl _⟩
        · simp only [List.getElem?_toArray, List.getElem?_cons_zero, List.getElem?_cons_succ, Option.some.injEq] at ho
          subst ho
          obtain rfl := Option.some.inj hdt
          have i64 : (act.eval (.tmp (64 : Nat))) = .int .i64 r := hin ⟨6, .data⟩ (by simp) rfl 64 rfl
          refine enter_wp 11 #[.int .i64 r, .int .i64 1] (by intro c h; cases h) (fun _ _ => trivial) (by simp only [execOp, evalC, evalF, evalG, resolve, i64, evalC, List.map_toArray, List.map_cons, List.map_nil]; simp [invoke, egQ, Result.andThen, go_sem]) (by intro h; cases h) (callsIn_wide.2 (new_any r 1 u)) ?_
          rintro e w' ⟨rfl, hb⟩
          exact ⟨_, rfl, _, rfl, show frV (newR r 1) = frV Rr from by rw [HRr.out], hb⟩
        · simp only [List.getElem?_toArray, List.getElem?_cons_zero, List.getElem?_cons_succ, Option.some.injEq] at ho
          subst ho
          obtain rfl := Option.some.inj hdt
          have i1 : act.eval (.tmp (1 : Nat)) = .pointer (some ⟨w.heap.size, 0, none⟩) := hfr 1 (by decide)
          exact plain_wp (by intro c h; cases h) (fun _ _ => trivial) (by simp only [execOp, i1, evalC, evalF, evalG]; simp [go_sem, c7]) ⟨_, rfl, rfl, Bl.refl _⟩
        · simp only [List.getElem?_toArray, List.getElem?_cons_zero, List.getElem?_cons_succ, Option.some.injEq] at ho
          subst ho
          obtain rfl := Option.some.inj hdt
          have i66 : (act.eval (.tmp (66 : Nat))) = .pointer (some ⟨w.heap.size, 7, none⟩) := hin ⟨8, .data⟩ (by simp) rfl 66 rfl
          exact plain_wp (by intro c h; cases h) (fun _ _ => trivial) (by simp only [execOp, i66, evalC, evalF, evalG]; simp [go_sem, c7]) ⟨_, rfl, rfl, Bl.refl _⟩
        · simp only [List.getElem?_toArray, List.getElem?_cons_zero, List.getElem?_cons_succ, Option.some.injEq] at ho
          subst ho
          obtain rfl := Option.some.inj hdt
          have i67 : (act.eval (.tmp (67 : Nat))) = .int .i64 z := hin ⟨9, .data⟩ (by simp) rfl 67 rfl
          refine enter_wp 11 #[.int .i64 z, .int .i64 1] (by intro c h; cases h) (fun _ _ => trivial) (by simp only [execOp, evalC, evalF, evalG, resolve, i67, evalC, List.map_toArray, List.map_cons, List.map_nil]; simp [invoke, egQ, Result.andThen, go_sem]) (by intro h; cases h) (callsIn_wide.2 (new_any z 1 u)) ?_
          rintro e w' ⟨rfl, hb⟩
          exact ⟨_, rfl, _, rfl, show frV (newR z 1) = frV Zz from by rw [HZz.out], hb⟩
      case call =>
        intro o act u ho hsz hu hfr hin
        obtain ⟨c0, c1, c2, c3, c4, c5, c6, c7⟩ := HC.out _ (b6w.trans hu)
        simp only [List.getElem?_toArray, List.getElem?_cons_zero, List.getElem?_cons_succ, Option.some.injEq, Nat.reduceAdd] at ho
        subst ho
        have i58 : (act.eval (.tmp (58 : Nat))) = sJ q2 m cq2 m m p2 N c2' := hin ⟨0, .data⟩ (by simp) rfl 58 rfl
        have i62 : ∃ q c, (act.eval (.tmp (62 : Nat))) = .slice q m c ∧ Rw 3 cellsF u (.slice q m c) (linJ m (fun _ => wholeF 0)) := hin ⟨4, .data⟩ (by simp) rfl 62 rfl
        have i65 : (act.eval (.tmp (65 : Nat))) = frV Rr := hin ⟨7, .data⟩ (by simp) rfl 65 rfl
        have i68 : (act.eval (.tmp (68 : Nat))) = frV Zz := hin ⟨10, .data⟩ (by simp) rfl 68 rfl
        obtain ⟨q0, cc0, e0, hq⟩ := i62
        refine enter_wp 10 #[sJ q2 m cq2 m m p2 N c2', .slice q0 m cc0, frV Rr, frV Zz] (by intro c h; cases h) (fun _ _ => trivial) (by simp only [execOp, evalC, evalF, evalG, resolve, i58, e0, i65, i68, List.map_toArray, List.map_cons, List.map_nil]; simp [invoke, egU, Result.andThen, go_sem]) (by intro h; cases h) (callsIn_wide.2 (jUpdateF m N q2 cq2 (fun i => wholeF (X.getD i 0)) p2 c2' (squareJ kdF m (fun i k => wholeF (ofL m Ro i k))) q0 cc0 (fun _ => wholeF 0) Rr Zz u (HR2.out.later (b26.trans hu)).q (HM2.out.later (b26.trans hu)) hq.q hm4)) ?_
        rintro e w' ⟨q, c, p', c', rfl, ⟨hR, hM, hF1, hF2⟩, hb⟩
        exact ⟨_, rfl, (q, c, p', c'), rfl, ⟨hR, hM⟩, hb, fun b hb' _ => ⟨fun g hg => by have := hF1 g hg; omega, fun g hg => by have := hF2 g hg; omega⟩⟩
      case mv =>
        intro o act u x ho hx
        simp only [List.getElem?_toArray, List.getElem?_cons_zero, List.getElem?_cons_succ, Option.some.injEq, Nat.reduceAdd] at ho
        subst ho
        exact plain_wp (by intro c h; cases h) (fun _ _ => trivial) (by simp only [execOp, hx]; simp [go_sem]) ⟨rfl, rfl⟩
      case x0 =>
        intro o act u x y z ho hx
        simp only [List.getElem?_toArray, List.getElem?_cons_zero, List.getElem?_cons_succ, Option.some.injEq, Nat.reduceAdd] at ho
        subst ho
        exact plain_wp (by intro c h; cases h) (fun _ _ => trivial) (by simp only [execOp, hx]; simp [go_sem]) ⟨rfl, rfl⟩
      case x1 =>
        intro o act u x y z ho hx
        simp only [List.getElem?_toArray, List.getElem?_cons_zero, List.getElem?_cons_succ, Option.some.injEq, Nat.reduceAdd] at ho
        subst ho
        exact plain_wp (by intro c h; cases h) (fun _ _ => trivial) (by simp only [execOp, hx]; simp [go_sem]) ⟨rfl, rfl⟩
      case x2 =>
        intro o act u x y z ho hx
        simp only [List.getElem?_toArray, List.getElem?_cons_zero, List.getElem?_cons_succ, Option.some.injEq, Nat.reduceAdd] at ho
        subst ho
        exact plain_wp (by intro c h; cases h) (fun _ _ => trivial) (by simp only [execOp, hx]; simp [go_sem]) ⟨rfl, rfl⟩
      case la =>
        intro o act u ho
        simp only [List.getElem?_toArray, List.getElem?_cons_zero, List.getElem?_cons_succ, Option.some.injEq, Nat.reduceAdd] at ho
        subst ho
        exact plain_wp (by intro c h; cases h) (fun _ _ => trivial) (w' := u.alloc (.cells #[.slice none 0 0, .int .i64 0, .int .i64 0, .slice none 0 0] 31)) (v := .pointer (some ⟨u.heap.size, 0, none⟩)) (by simp only [execOp]; simp [go_sem]) ⟨rfl, SBox.new u _ _ _ _ _ _ _ _ _, (Bl.refl _).alloc _, by simp⟩
      case lb =>
        intro o act u ho
        simp only [List.getElem?_toArray, List.getElem?_cons_zero, List.getElem?_cons_succ, Option.some.injEq, Nat.reduceAdd] at ho
        subst ho
        exact plain_wp (by intro c h; cases h) (fun _ _ => trivial) (w' := u.alloc (.cells #[.int .i64 0, .int .i64 0, .bool false, .int .i64 0, .int .i64 0, .bool false] 37)) (v := .pointer (some ⟨u.heap.size, 0, none⟩)) (by simp only [execOp]; simp [go_sem]) ⟨rfl, NBoxF.new u zeroR zeroR _, (Bl.refl _).alloc _, by simp⟩
      case sa =>
        intro o act u D b ho hA h0 hz hdat hoff hbl hb
        simp only [List.getElem?_toArray, List.getElem?_cons_zero, List.getElem?_cons_succ, Option.some.injEq, Nat.reduceAdd] at ho
        subst ho
        obtain ⟨q0, c0, p0, c1⟩ := D
        replace h0 : act.eval (.tmp 70) = sJ q0 (m) c0 (m) (m) p0 (N) c1 := h0
        obtain ⟨d0, d1, d2, d3, g0, g1, g2, g3, lt⟩ := (show SBox u b none 0 0 0 0 none 0 0 from hz)
        exact skip_wp (by intro c h; cases h) (fun _ _ => trivial) (by simp only [execOp, hA, h0]; simp [go_sem, d0, d1, d2, d3, g0, g1, g2, g3]) ⟨rfl, SBox.fill (show SBox u b none 0 0 0 0 none 0 0 from hz) _ _ _ _ _ _ _ _, ⟨hdat.1.but (but4F _ _ _ _ _ _) (fun g hg => hoff.1 g hg), hdat.2.but (but4F _ _ _ _ _ _) (fun g hg => hoff.2 g hg)⟩, Bl.put4 hbl hb _ _ _ _, fun b' h' => heap4F _ h' _ _ _ _, by simp⟩
      case sb =>
        intro o act u D b ho hA h0 hz hdat hoff hbl hb
        simp only [List.getElem?_toArray, List.getElem?_cons_zero, List.getElem?_cons_succ, Option.some.injEq, Nat.reduceAdd] at ho
        subst ho
        obtain ⟨q0, c0, p0, c1⟩ := D
        replace h0 : act.eval (.tmp 71) = newsVF (surpJ kdF m (fun i => wholeF (X.getD i 0)) (fun _ => wholeF 0) Zz) (spreadJ kdF m (squareJ kdF m (fun i k => wholeF (ofL m Ro i k))) (fun _ => wholeF 0) Rr) := h0
        obtain ⟨d0, d1, d2, d3, d4, d5, g0, g1, g2, g3, g4, g5, lt⟩ := (show NBoxF u b zeroR zeroR from hz)
        exact skip_wp (by intro c h; cases h) (fun _ _ => trivial) (by simp only [execOp, hA, h0]; simp [go_sem, d0, d1, d2, d3, d4, d5, g0, g1, g2, g3, g4, g5]) ⟨rfl, NBoxF.fill (show NBoxF u b zeroR zeroR from hz) _ _, ⟨hdat.1.but (butNF _ _ _ _) (fun g hg => hoff.1 g hg), hdat.2.but (butNF _ _ _ _) (fun g hg => hoff.2 g hg)⟩, blNF b hbl hb _ _, fun b' h' => heapNF _ h' _ _, by simp⟩
      case asg =>
        intro o act u x ho hx
        simp only [List.getElem?_toArray, List.getElem?_cons_zero, List.getElem?_cons_succ, Option.some.injEq, Nat.reduceAdd] at ho
        subst ho
        exact plain_wp (by intro c h; cases h) (fun _ _ => trivial) (by simp only [execOp, hx]; simp [go_sem]) ⟨rfl, rfl⟩
      case fin =>
        intro vs u D b7 n7' hu e9' e5' e6' hb1 hb2 hsa hsb hdat
        simp only [putL, Act.put, List.setIfInBounds_toArray, List.set_cons_zero, List.set_cons_succ, Nat.zero_add, Nat.reduceAdd] at e9' e5' e6' ⊢
        replace e9' := Eq.trans e9' (show _ = Value.bool true from rfl)
        simp only [e9', e5', e6']
        obtain ⟨q7, cq7, p7, c7'⟩ := D
        obtain ⟨w7, rfl⟩ : ∃ w7, w7 = u := ⟨_, rfl⟩
        have k7 : SBox w7 b7 q7 m cq7 m m p7 N c7' := hsa
        have n7 : NBoxF w7 n7' (surpJ kdF m (fun i => wholeF (X.getD i 0)) (fun _ => wholeF 0) Zz) (spreadJ kdF m (squareJ kdF m (fun i k => wholeF (ofL m Ro i k))) (fun _ => wholeF 0) Rr) := hsb
        rw [show (surpJ kdF m (fun i => wholeF (X.getD i 0)) (fun _ => wholeF 0) Zz) = Zz from by rw [HZz.out]; exact HS9.out.surp, show (spreadJ kdF m (squareJ kdF m (fun i k => wholeF (ofL m Ro i k))) (fun _ => wholeF 0) Rr) = Rr from by rw [HRr.out]; exact HS9.out.spread] at n7
        have HD7 : Rw 3 cellsF w7 (.slice q7 m cq7) (linJ m (upXJ kdF m (fun i => wholeF (X.getD i 0)) (squareJ kdF m (fun i k => wholeF (ofL m Ro i k))) (fun _ => wholeF 0) Rr Zz)) ∧ Mx 3 cellsF w7 m m p7 N c7' (upPJ kdF (fun i j => wholeF (unitI i j)) m (squareJ kdF m (fun i k => wholeF (ofL m Ro i k))) (fun _ => wholeF 0) Rr) := hdat
        have HR7 := hideP HD7.1
        have b67 : Bl W6 w7 := hu
        have b27 : Bl W2 w7 := b26.trans hu
        have b7w : Bl W w7 := b2w.trans b27
        have HMT := hideP (show Mx 3 cellsF w7 m m p6 N c6' (squareJ kdF m (fun i k => wholeF (ofL m Ro i k))) from mx_congr9 (HM6.out.later hu) HS9.out.pred)
        have HMU := hideP (show Mx 3 cellsF w7 m m p7 N c7' (squareJ kdF m (fun i k => wholeF (ofL m Ro i k))) from mx_congr9 HD7.2 (fun i k hi hk => by have := HS9.out.p i k hi hk; rw [← HRr.out] at this; exact this))
        have HMS := hideP (HM2.out.later b27)
        obtain ⟨s0, s1, s2, s3, _, _, _, _, _⟩ := k2.later b27
        obtain ⟨t0, t1, t2, t3, _, _, _, _, _⟩ := k6.later b67
        obtain ⟨v0, v1, v2, v3, _, _, _, _, _⟩ := id k7
        clear hsa hsb hdat HD7
        obtain ⟨c0, c1, c2, c3, c4, c5, c6, c7⟩ := HC.out w7 (b7w)
        go_wp2_with fail
        refine (alike_any (m : Int) (m : Int) p6 p2 N c6' c2' (mk m m (squareJ kdF m (fun i k => wholeF (ofL m Ro i k)))) w7 HMT.out.2.2 HMS.out.2.2 (by rw [mk_len]; exact HNN.out.symm) (by omega)).mono ?_
        rintro e w8 ⟨rfl, h8⟩
        clear s0 s1 s2 s3 t0 t1 t2 t3 v0 v1 v2 v3 c0 c1 c2 c3 c4 c5 c6 c7
        obtain ⟨s0, s1, s2, s3, _, _, _, _, _⟩ := k2.later (b27.trans h8)
        obtain ⟨v0, v1, v2, v3, _, _, _, _, _⟩ := k7.later h8
        go_wp2_with fail
        refine (alike_any (m : Int) (m : Int) p7 p2 N c7' c2' (mk m m (squareJ kdF m (fun i k => wholeF (ofL m Ro i k)))) w8 (HMU.out.later h8).2.2 (HMS.out.later h8).2.2 (by rw [mk_len]; exact HNN.out.symm) (by omega)).mono ?_
        rintro e w9 ⟨rfl, h9⟩
        clear s0 s1 s2 s3 v0 v1 v2 v3
        obtain ⟨s0, s1, s2, s3, _, _, _, _, _⟩ := k2.later (b27.trans (h8.trans h9))
        go_wp2_with fail
        clear s0 s1 s2 s3
        have b79 := h8.trans h9
        replace k7 := k7.later b79
        replace n7 := n7.later b79
        replace HR7 := hideP (HR7.out.later b79)
        replace b67 := b67.trans b79
        replace b27 := b27.trans b79
        replace b7w := b7w.trans b79
        obtain ⟨gs, os, hgs, CXS⟩ := rw_cells9F (HR2.out.later b27) (by omega)
        obtain ⟨gt, ot, hgt, CXT⟩ := rw_cells9F (HR6.out.later b67) (by omega)
        obtain ⟨gu, ou, hgu, CXU⟩ := rw_cells9F HR7.out (by omega)
        have HGS := hideP hgs
        have HGT := hideP hgt
        have HGU := hideP hgu
        have HCS := hideP CXS
        have HCT := hideP CXT
        have HCU := hideP CXU
        clear hgs hgt hgu CXS CXT CXU
        go_loopw [114] (fun v wr => ∃ tt : Nat, v = .int .i64 tt ∧ tt ≤ m ∧ Bl w9 wr) (fun v _ => m - (intOf v).toNat)
        case atStart => exact ⟨0, rfl, Nat.zero_le _, Bl.refl _⟩
        case round =>
          obtain ⟨tt, rfl, ht, bl⟩ := hrel
          by_cases hlt2 : tt < m
          · obtain ⟨x, hx⟩ : ∃ x, x = wholeF (X.getD tt 0) := ⟨_, rfl⟩
            have e1 := HS9.out.app tt hlt2
            have e2 := HS9.out.x tt hlt2
            rw [← HRr.out, ← HZz.out, ← hx] at e2
            rw [← hx] at e1
            have CS := fun (z : Wl wr) => HCS.out z.w (bl.trans z.bl) tt hlt2
            have CT := fun (z : Wl wr) => HCT.out z.w (bl.trans z.bl) tt hlt2
            have CU := fun (z : Wl wr) => HCU.out z.w (bl.trans z.bl) tt hlt2
            rw [← hx] at CS
            rw [e1] at CT
            rw [e2] at CU
            clear e1 e2 hx
            have x0 := fun z => (CS z).1
            have x1 := fun z => (CS z).2.1
            have x2 := fun z => (CS z).2.2
            have y0 := fun z => (CT z).1
            have y1 := fun z => (CT z).2.1
            have y2 := fun z => (CT z).2.2
            have z0 := fun z => (CU z).1
            have z1 := fun z => (CU z).2.1
            have z2 := fun z => (CU z).2.2
            have s0 := fun z : Wl wr => (k2.later ((b27.trans bl).trans z.bl)).c0
            have t0 := fun z : Wl wr => (k6.later ((b67.trans bl).trans z.bl)).c0
            have v0 := fun z : Wl wr => (k7.later (bl.trans z.bl)).c0
            rw [HGS.out] at s0
            rw [HGT.out] at t0
            rw [HGU.out] at v0
            have sx := eql_selfV x
            have nx := neq_selfV x
            obtain ⟨xn, xd, xb⟩ := x
            have wne := wl_ne wr
            clear CS CT CU
            dsimp only at x0 x1 x2 y0 y1 y2 z0 z1 z2
            go_wp2_with fail
            refine wl_region wr (Bl.refl _) (by kernel_rfl) (by kernel_rfl) ?_
            repeat (go_big_quiet_step (first | fail))
            refine wpQuiet_nil ?_
            intro _ hw'
            obtain ⟨z, hw''⟩ := hw'
            subst hw''
            clear wne x0 x1 x2 y0 y1 y2 z0 z1 z2 s0 t0 v0
            obtain ⟨wz, hz⟩ := z
            dsimp only
            go_wp2
            go_roundw
            case rel => exact ⟨tt + 1, by simp, hlt2, bl.trans hz⟩
            case measure => simp [intOf]; omega
          · obtain rfl : tt = m := by omega
            have NW := hideP (fun x (zw : Wl wr) => new_any x 1 zw.w)
            have NR : newR r 1 = Rr := HRr.out.symm
            have NZ : newR z 1 = Zz := HZz.out.symm
            have AW' := hideP (fun zw : Wl wr => AW.out zw.w)
            have cc6 := fun z : Wl wr => (HC.out z.w (b7w.trans (bl.trans z.bl))).2.2.2.2.2.2.1
            have cc7 := fun z : Wl wr => (HC.out z.w (b7w.trans (bl.trans z.bl))).2.2.2.2.2.2.2
            have m0 := fun z : Wl wr => (n7.later (bl.trans z.bl)).c0
            have m1' := fun z : Wl wr => (n7.later (bl.trans z.bl)).c1
            have m2 := fun z : Wl wr => (n7.later (bl.trans z.bl)).c2
            have m3' := fun z : Wl wr => (n7.later (bl.trans z.bl)).c3
            have m4 := fun z : Wl wr => (n7.later (bl.trans z.bl)).c4
            have m5 := fun z : Wl wr => (n7.later (bl.trans z.bl)).c5
            have sr := eql_selfV Rr
            have sz := eql_selfV Zz
            have wne := wl_ne wr
            go_wp2_with fail
            refine wl_region wr (Bl.refl _) (by kernel_rfl) (by kernel_rfl) ?_
            repeat (go_big_quiet_step (first | (go_at_call 11; exact wl_call (NW.out _ _)) | (go_at_call 7; exact wl_call (AW'.out _))))
            refine wpQuiet_nil ?_
            intro _ hw'
            obtain ⟨z, hw''⟩ := hw'
            subst hw''
            clear wne cc6 cc7 m0 m1' m2 m3' m4 m5
            obtain ⟨wz, hz⟩ := z
            dsimp only
            go_wp2
            go_ret
            exact ⟨rfl, (B2.trans (b27.trans bl)).trans hz⟩
end Go.Proofs.Ythnadgbloamlaaa

/- A slice of whole numbers as an argument: opened. -/
namespace Go.Proofs.Ythnadgbloamlaaa
open Go.ChangeShapes Go.WideShapes Go.ChangeAt Go.RowKit
set_option linter.unusedVariables false

theorem Try.cellsInt : Try.prog.cellsOf 3 = 1 := by kernel_rfl
theorem cell_block_lt {W : World} {b o : Nat} {v : Value} (h : W.cell? ⟨b, o, none⟩ = some v) : b < W.heap.size := by
  rcases Nat.lt_or_ge b W.heap.size with h' | h'
  · exact h'
  · have : W.heap[b]? = none := Array.getElem?_eq_none h'
    simp [World.cell?, this] at h
set_option maxRecDepth 1000000 in
theorem open_row {H : Type} {enc : TypeId × Value → H} {W : World} {b0 : Nat} {v : Value} {d : DataW H} {p : List MemPlace}
    (hv : Value.okWide Try.prog W .any b0 22 v) (h : DataW.Trod enc Try.prog W 0 (fun _ => true) true 22 v d p) : ∃ ns : List Int, Rq 1 cI W v ns ∧ ∀ n ∈ ns, (Lit.int .i64 n).wf = true := by
  obtain ⟨a0, len, cap, rfl⟩ := okWide_slice Try.underlying22 hv
  obtain ⟨fuel, hf⟩ := h
  rcases open_ints Try.underlying22 Try.underlying3 Try.cellsInt hf with ⟨hcs, hx⟩ | ⟨a, len', cap', zs, hcs, _, hl, hm, hz, hx, hcell, hwz⟩
  · simp [Value.cells] at hcs
    obtain ⟨rfl, rfl, rfl⟩ := hcs
    exact ⟨[], .inl ⟨none, 0, rfl, rfl, fun _ => rfl⟩, fun n hn => by simp at hn⟩
  · simp [Value.cells] at hcs
    obtain ⟨rfl, rfl, rfl⟩ := hcs
    simp only [if_true] at hz
    refine ⟨zs.take len, ?_, fun n hn => hwz n (List.mem_of_mem_take hn)⟩
    by_cases h0 : len = 0
    · subst h0
      exact .inl ⟨some a, cap, rfl, by simp, nofun⟩
    · have c0 := hcell 0 (by omega)
      obtain ⟨b, off, rfl, hc⟩ := ints_at hcell (by omega)
      have hb : b < W.heap.size := by
        have := hc 0 (by omega)
        exact cell_block_lt this
      have hll : (zs.take len).length = len := by simp; omega
      refine .inr ⟨b, off, cap, by rw [hll], by omega, hb, fun j x hj k u hu => ?_⟩
      rcases k with _ | k
      · simp at hu
        subst hu
        have hj2 := (List.getElem?_eq_some_iff.1 hj).1
        have := hc j (by omega)
        rw [List.getElem?_take] at hj
        split at hj
        · have e : zs.getD j 0 = x := by simp [List.getD, hj]
          rw [e] at this
          simpa using this
        · cases hj
      · simp at hu
end Go.Proofs.Ythnadgbloamlaaa

/- A case of layer 9's laws as an argument: opened. -/
namespace Go.Proofs.Ythnadgbloamlaaa
open Go.ChangeShapes Go.WideShapes Go.ChangeAt Go.RowKit Go.Joins
set_option linter.unusedVariables false

/-- A case as a value. -/
abbrev caseV (n : Int) (x root f g h : Value) (r z : Int) : Value := .agg #[.int .i64 n, x, root, f, g, h, .int .i64 r, .int .i64 z]
theorem array8 {α : Type} {cs : Array α} (h : cs.size = 8) : ∃ c0 c1 c2 c3 c4 c5 c6 c7, cs = #[c0, c1, c2, c3, c4, c5, c6, c7] := by
  obtain ⟨l⟩ := cs
  match l, h with
  | [c0, c1, c2, c3, c4, c5, c6, c7], _ => exact ⟨c0, c1, c2, c3, c4, c5, c6, c7, rfl⟩
theorem cellsCase : Try.prog.cellsOf 24 = 8 := by kernel_rfl
set_option maxRecDepth 1000000 in
theorem row_trod {H : Type} {enc : TypeId × Value → H} {W : World} {n : Nat} {v : Value} {y : DataW H × List MemPlace}
    (hf : DataW.trod enc Try.prog W 0 (fun _ => true) true n 22 [v] = some y) : ∃ ns : List Int, Rq 1 cI W v ns ∧ ∀ n ∈ ns, (Lit.int .i64 n).wf = true := by
  obtain ⟨d, p⟩ := y
  rcases open_ints Try.underlying22 Try.underlying3 Try.cellsInt hf with ⟨hcs, hx⟩ | ⟨a, len', cap', zs, hcs, _, hl, hm, hz, hx, hcell, hwz⟩
  · simp at hcs
    subst hcs
    exact ⟨[], .inl ⟨none, 0, rfl, rfl, fun _ => rfl⟩, fun n hn => by simp at hn⟩
  · simp at hcs
    subst hcs
    simp only [if_true] at hz
    refine ⟨zs.take len', ?_, fun n hn => hwz n (List.mem_of_mem_take hn)⟩
    by_cases h0 : len' = 0
    · subst h0
      exact .inl ⟨some a, cap', rfl, by simp, nofun⟩
    · have c0 := hcell 0 (by omega)
      obtain ⟨b, off, rfl, hc⟩ := ints_at hcell (by omega)
      have hb : b < W.heap.size := by
        have := hc 0 (by omega)
        exact cell_block_lt this
      have hll : (zs.take len').length = len' := by simp; omega
      refine .inr ⟨b, off, cap', by rw [hll], by omega, hb, fun j x hj k u hu => ?_⟩
      rcases k with _ | k
      · simp at hu
        subst hu
        have hj2 := (List.getElem?_eq_some_iff.1 hj).1
        have := hc j (by omega)
        rw [List.getElem?_take] at hj
        split at hj
        · have e : zs.getD j 0 = x := by simp [List.getD, hj]
          rw [e] at this
          simpa using this
        · cases hj
      · simp at hu
set_option maxRecDepth 1000000 in
theorem open_case {H : Type} {enc : TypeId × Value → H} {W : World} {b0 : Nat} {v : Value} {d : DataW H} {p : List MemPlace}
    (hv : Value.okWide Try.prog W .any b0 24 v) (h : DataW.Trod enc Try.prog W 0 (fun _ => true) true 24 v d p) :
    ∃ (n r z : Int) (x root f g h' : Value) (X Root F G H' : List Int), v = caseV n x root f g h' r z ∧ Rq 1 cI W x X ∧ Rq 1 cI W root Root ∧ Rq 1 cI W f F ∧ Rq 1 cI W g G ∧ Rq 1 cI W h' H' := by
  obtain ⟨cs, rfl, hsz⟩ := okWide_struct Try.underlying24 hv
  obtain ⟨c0, c1, c2, c3, c4, c5, c6, c7, rfl⟩ := array8 (hsz.trans cellsCase)
  obtain ⟨fuel, hf⟩ := h
  obtain ⟨xs, n, _, hxx, hl, hlen, hall⟩ := DataW.trod_struct Try.underlying24 hf
  match xs, hlen with
  | [y0, y1, y2, y3, y4, y5, y6, y7], _ =>
    have h0 := hall 0 _ rfl
    have h1 := hall 1 _ rfl
    have h2 := hall 2 _ rfl
    have h3 := hall 3 _ rfl
    have h4 := hall 4 _ rfl
    have h5 := hall 5 _ rfl
    have h6 := hall 6 _ rfl
    have h7 := hall 7 _ rfl
    simp only [Value.cells] at h0 h1 h2 h3 h4 h5 h6 h7
    simp at h0 h1 h2 h3 h4 h5 h6 h7
    have k1 : Try.prog.cellsOf 3 = 1 := by kernel_rfl
    have k2 : Try.prog.cellsOf 22 = 1 := by kernel_rfl
    rw [k1] at h0 h6 h7
    rw [k2] at h1 h2 h3 h4 h5
    simp only [List.take_succ_cons, List.take_zero] at h0 h1 h2 h3 h4 h5 h6 h7
    obtain ⟨n0, e0, _, _⟩ := DataW.trod_int Try.underlying3 h0
    obtain ⟨r0, e6, _, _⟩ := DataW.trod_int Try.underlying3 h6
    obtain ⟨z0, e7, _, _⟩ := DataW.trod_int Try.underlying3 h7
    obtain ⟨X, hX, _⟩ := row_trod h1
    obtain ⟨Root, hRoot, _⟩ := row_trod h2
    obtain ⟨F, hF, _⟩ := row_trod h3
    obtain ⟨G, hG, _⟩ := row_trod h4
    obtain ⟨H', hH, _⟩ := row_trod h5
    simp only [List.cons.injEq, and_true] at e0 e6 e7
    subst e0 e6 e7
    exact ⟨n0, r0, z0, c1, c2, c3, c4, c5, X, Root, F, G, H', rfl, hX, hRoot, hF, hG, hH⟩
end Go.Proofs.Ythnadgbloamlaaa

/- A tick of the unit, and of no noise, changes nothing, in fractions; a measurement of nothing neither. Conditions: none (every input). -/
namespace Go.Proofs.Ythnadgbloamlaaa
open Go.ChangeShapes Go.WideShapes Go.ChangeAt Go.RowKit
set_option linter.unusedVariables false

theorem own_JosephStill : ownKnob Try.prog.godebug = none := by kernel_rfl
theorem laid_JosephStill : laidOutB Try.prog = true := by kernel_rfl
set_option maxRecDepth 100000 in
theorem lifted_JosephStill (os : Os) (started : os.Started) (H : Type) (enc : TypeId × Value → H) :
    ReturnsInHanded {} Try.checked os 4 .any (Rows.josephStillSpec.pre6 enc Try.prog Try.f4 Rows.josephStillRow.domain false) (Rows.josephStillSpec.post enc Try.prog Try.f4 false true false false) := by
  refine returnsInHanded_of_change (C := Try.checked) own_JosephStill started (by kernel_rfl) Try.func4
    (ChangeSpec.witness6 (enc := enc) (C := Try.checked) false ⟨#[], #[.agg #[.int .i64 0, .slice none 0 0, .slice none 0 0, .slice none 0 0, .slice none 0 0, .slice none 0 0, .int .i64 0, .int .i64 0]], []⟩ 8 (by kernel_rfl) (by kernel_rfl) (by kernel_rfl) (by kernel_rfl)) ?_
  intro W base args ds gs before hval0 hW hcnd _
  have hval : ∀ (j : Nat) t v, Try.f4.params[j]? = some t → args[j]? = some v → Value.okWide Try.prog W .any base t v := hval0
  have hW' := hW
  obtain ⟨p, q, hA0, hV, rfl, hfz, hnd⟩ := hW
  have hA : DataW.TrodAll enc Try.prog W 0 (fun _ => true) true Try.f4.params.toList args.toList ds p := hA0
  rw [Try.params4] at hA hval
  obtain ⟨v0, vs0, d0, ds0, p0, q0, hargs, rfl, rfl, h0, r0⟩ := trodAll_cons hA
  obtain ⟨rfl, rfl, rfl⟩ := trodAll_nil r0
  obtain rfl : args = #[v0] := by cases args; simp_all
  obtain ⟨rfl, rfl⟩ := trodVars_none hV
  have hltA := fun x hx => hW'.lt x hx
  obtain ⟨n0, r0x, z0, x0, o0, f0, g0, k0, X0, O0, F0, G0, K0, e0, R0a, R0b, R0c, R0d, R0e⟩ := open_case (hval 0 24 v0 rfl rfl) h0
  subst e0
  clear hA0 hval0
  refine (walk_JosephStill n0 r0x z0 x0 o0 f0 g0 k0 X0 O0 F0 G0 K0 W R0a R0b R0c R0d R0e).mono fun e W' ⟨he, bel⟩ => ?_
  subst he
  exact ⟨_, rfl, _, _, _, [], _, [], hW', trodAll_mk1 (shut_bool Try.underlying4 _), (trodAll_cons_mk (Below.trod laid_JosephStill (by kernel_rfl) (of_decide_eq_true (by kernel_rfl)) h0 bel (fun x hx => by have := hltA x (by simp [hx]); simpa using this)) trodAll_mk0), rfl, Below.frame bel _, fun h => by cases h⟩

theorem proved_JosephStill : Rows.JosephStillSaid :=
  OpenClaim.holds_of_wide 4 Try.f4 rfl rfl rfl rfl rfl rfl rfl ⟨rfl, rfl, rfl, rfl, rfl⟩ rfl rfl rfl rfl rfl (by kernel_rfl) Try.func4 (by kernel_rfl)
    (of_decide_eq_true (by kernel_rfl)) (by unfold Func.isWrapper; first | (rw [if_pos (by decide +kernel)]; kernel_rfl) | (rw [if_neg (by decide +kernel)]; exact ⟨rfl, rfl⟩))
    (fun os started H enc _ => lifted_JosephStill os started H enc)
#print axioms proved_JosephStill
end Go.Proofs.Ythnadgbloamlaaa
