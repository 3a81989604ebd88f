/- The square of a root, of fractions (layer 7). Mathematics alone. -/
import Derived.Test.YtbfdkahbnfpabaaGreatMaCF
import Derived.Test.YtbfdkahbnfpabaaGreatMaQF
import Derived.Test.YtbfdkahbnfpabaaGreatMaT
import Derived.Test.YtbfdkahbnfpabaaGreatFrN
import Derived.Test.YtbfdkahbnfpabaaGreatVeHF
import Derived.Test.YtbfdkahbnfpabaaGreatVeM
/- Matrices of whole numbers, as fractions: contracts in the words of layer 6's laws; awake. -/
namespace Go.Proofs.YtbfdkahbnfpabaaGreat
open Go.RowKit
set_option linter.unusedSimpArgs false
set_option linter.unusedVariables false

/-- All numbers of a matrix are so small. -/
def Sm2 (A : Int) (R C : Nat) (g : Nat → Nat → Int) : Prop := ∀ i k, i < R → k < C → -A ≤ g i k ∧ g i k ≤ A
/-- A matrix of whole numbers, as fractions. -/
abbrev MxI (w : World) (R C : Nat) (p : Option Addr) (n cap : Nat) (g : Nat → Nat → Int) : Prop := Mx 3 cellsF w R C p n cap (fun i k => itF (g i k))
theorem rowI_it (C : Nat) (g : Nat → Nat → Int) (i : Nat) : rowM C (fun i k => itF (g i k)) i = (rowM C g i).map itF := by simp [rowM]
theorem colI_it (R : Nat) (g : Nat → Nat → Int) (k : Nat) : colM R (fun i k => itF (g i k)) k = (colM R g k).map itF := by simp [colM]
theorem row_sml {A : Int} {R C : Nat} {g : Nat → Nat → Int} (h : Sm2 A R C g) {i : Nat} (hi : i < R) : Sml A (rowM C g i) := by
  intro x hx
  obtain ⟨k, hk, rfl⟩ := List.mem_map.1 hx
  exact h i k hi (by simpa using hk)
theorem col_sml {A : Int} {R C : Nat} {g : Nat → Nat → Int} (h : Sm2 A R C g) {k : Nat} (hk : k < C) : Sml A (colM R g k) := by
  intro x hx
  obtain ⟨i, hi, rfl⟩ := List.mem_map.1 hx
  exact h i k (by simpa using hi) hk
theorem mk_sml {A : Int} {R C : Nat} {g : Nat → Nat → Int} (h : Sm2 A R C g) : Sml A (mk R C g) := by
  intro x hx
  obtain ⟨i, hi, hx⟩ := List.mem_flatMap.1 hx
  exact row_sml h (by simpa using hi) x hx
/-- The dot of whole numbers that are small enough. -/
theorem dot_it6 {A B : Int} {xs ys : List Int} (h : Sml A xs) (k : Sml B ys) (hA : 0 ≤ A ∧ A ≤ 1073741824) (hB : 0 ≤ B ∧ B ≤ 1073741824) (hl : xs.length ≤ 16) (hAB : A * B ≤ 67108864) : dotF (xs.map itF) (ys.map itF) = itF (dotI xs ys) := by
  unfold dotF dotI
  have hp : 0 ≤ A * B := Int.mul_nonneg hA.1 hB.1
  rw [muls_it (by omega) (by omega) (by omega) xs ys h k]
  refine sum_it (B := A * B) _ (muls_sml h k) hp ?_
  have hln : (List.zipWith (· * ·) xs ys).length ≤ 16 := by simp; omega
  have := Int.mul_le_mul_of_nonneg_left (show ((List.zipWith (· * ·) xs ys).length : Int) ≤ 16 by omega) hp
  omega
theorem mulM_it {A B : Int} {R M D : Nat} {a b : Nat → Nat → Int} (ha : Sm2 A R M a) (hb : Sm2 B M D b) (hM : M ≤ 16) (hA : 0 ≤ A ∧ A ≤ 1073741824) (hB : 0 ≤ B ∧ B ≤ 1073741824) (hAB : A * B ≤ 67108864) {i k : Nat} (hi : i < R) (hk : k < D) :
    mulMF M (fun i k => itF (a i k)) (fun i k => itF (b i k)) i k = itF (mulI M a b i k) := by
  unfold mulMF mulI
  rw [rowI_it, colI_it]
  exact dot_it6 (row_sml ha hi) (col_sml hb hk) hA hB (by rw [rowM_len]; exact hM) hAB
theorem Mx.congr {α : Type} {s : Nat} {c : α → List Value} {w : World} {R C : Nat} {p : Option Addr} {n cap : Nat} {f g : Nat → Nat → α} (h : Mx s c w R C p n cap f) (e : ∀ i k, i < R → k < C → f i k = g i k) : Mx s c w R C p n cap g :=
  ⟨h.1, h.2.1, by rw [← mk_congr e]; exact h.2.2⟩
theorem mul6_any {A B : Int} (R M D : Nat) (p : Option Addr) (n cap : Nat) (a : Nat → Nat → Int) (q : Option Addr) (n2 cap2 : Nat) (b : Nat → Nat → Int) (N : Nat) (w : World) (hx : MxI w R M p n cap a) (hy : MxI w M D q n2 cap2 b) (hN : N = R * D) (ha : Sm2 A R M a) (hb : Sm2 B M D b) (hA : 0 ≤ A ∧ A ≤ 1073741824) (hB : 0 ≤ B ∧ B ≤ 1073741824) (hAB : A * B ≤ 67108864) :
    Calls Tryz.prog 108 #[mV R M p n cap, mV M D q n2 cap2] w fun e w' => ∃ p' cap', e = .returned (.tuple #[mV R D p' N cap', .bool true]) ∧ MxI w' R D p' N cap' (mulI M a b) ∧ Bl w w' := by
  refine (mMulF R M D p n cap _ q n2 cap2 _ N w hx hy hN).mono ?_
  rintro e w' ⟨p', cap', rfl, ⟨h, _, _⟩, hb'⟩
  exact ⟨p', cap', rfl, h.congr (fun i k hi hk => mulM_it ha hb hx.1.c2 hA hB hAB hi hk), hb'⟩
/-- Whole, of numbers that go together. -/
theorem whole6_any (r c : Int) (p : Option Addr) (n cap : Nat) (ns : List Int) (w : World) (hr : Rq 1 cI w (.slice p n cap) ns) (h : fitB r c n = true) (hn : ns.length = n) (hs : Sml 100 ns) :
    ∃ R C : Nat, r = R ∧ c = C ∧ Dim R C ∧ n = R * C ∧ Sm2 100 R C (ofL C ns) ∧ Calls Tryz.prog 8 #[.int .i64 r, .int .i64 c, .slice p n cap] w fun e w' => ∃ p' cap', e = .returned (.tuple #[mV R C p' n cap', .bool true]) ∧ MxI w' R C p' n cap' (ofL C ns) ∧ Bl w w' := by
  obtain ⟨R, C, rfl, rfl, hd, hn'⟩ := fitB_nat h
  refine ⟨R, C, rfl, rfl, hd, hn', ofL_sml (by omega) hs, ?_⟩
  refine (mWholeF R C p n cap ns w hr h hn).mono ?_
  rintro e w' ⟨p', cap', rfl, hR, hb⟩
  refine ⟨p', cap', rfl, ⟨hd, hn', ?_⟩, hb⟩
  have e : ns.map wholeF = mk R C (fun i k => itF (ofL C ns i k)) := by
    rw [wholes_it ns hs (by omega), ← mk_map, ← ofL_mk (by omega)]
  rw [← e]
  exact hR.q
theorem whole6_call (R C : Nat) (p : Option Addr) (n cap : Nat) (ns : List Int) (w : World) (hr : Rq 1 cI w (.slice p n cap) ns) (h : fitB R C n = true) (hn : ns.length = n) (hs : Sml 100 ns) :
    Calls Tryz.prog 8 #[.int .i64 R, .int .i64 C, .slice p n cap] w fun e w' => ∃ p' cap', e = .returned (.tuple #[mV R C p' n cap', .bool true]) ∧ MxI w' R C p' n cap' (ofL C ns) ∧ Bl w w' := by
  obtain ⟨R', C', h1, h2, _, _, _, h3⟩ := whole6_any R C p n cap ns w hr h hn hs
  obtain rfl : R = R' := by omega
  obtain rfl : C = C' := by omega
  exact h3
theorem rq_new4 (w : World) (x y z u : Int) (t : TypeId) : Rq 1 cI (w.alloc (.cells #[.int .i64 x, .int .i64 y, .int .i64 z, .int .i64 u] t)) (.slice (some ⟨w.heap.size, 0, none⟩) 4 4) [x, y, z, u] := by
  refine .inr ⟨w.heap.size, 0, 4, rfl, Nat.le_refl _, by simp, fun j v hj k s hu => ?_⟩
  rcases k with _ | k
  · simp at hu
    subst hu
    rcases j with _ | _ | _ | _ | j
    · simp at hj; subst hj; simp [go_sem]
    · simp at hj; subst hj; simp [go_sem]
    · simp at hj; subst hj; simp [go_sem]
    · simp at hj; subst hj; simp [go_sem]
    · simp at hj
  · simp at hu
/-- awake's two matrices. -/
theorem whole22 (x y z u : Int) (w : World) (t : TypeId) (hs : Sml 100 [x, y, z, u]) (b0 : Nat) (hb0 : b0 = w.heap.size) : Calls Tryz.prog 8 #[.int .i64 2, .int .i64 2, .slice (some ⟨b0, 0, none⟩) 4 4] (w.alloc (.cells #[.int .i64 x, .int .i64 y, .int .i64 z, .int .i64 u] t)) fun e w' => ∃ p' cap', e = .returned (.tuple #[mV 2 2 p' 4 cap', .bool true]) ∧ MxI w' 2 2 p' 4 cap' (ofL 2 [x, y, z, u]) ∧ Bl (w.alloc (.cells #[.int .i64 x, .int .i64 y, .int .i64 z, .int .i64 u] t)) w' := by
  subst hb0
  obtain ⟨R, C, h1, h2, _, _, _, h⟩ := whole6_any 2 2 _ 4 4 [x, y, z, u] _ (rq_new4 w x y z u t) (by decide) rfl hs
  obtain rfl : R = 2 := by omega
  obtain rfl : C = 2 := by omega
  exact h
end Go.Proofs.YtbfdkahbnfpabaaGreat

/- Roots of squares, and what is solved, of lower triangles (layer 7). Mathematics alone. -/
namespace Go.Proofs.YtbfdkahbnfpabaaGreat
open Go.RowKit
set_option linter.unusedSimpArgs false
set_option linter.unusedVariables false

theorem root_it {x : Int} (h0 : 0 ≤ x) (h1 : x ≤ 32768) : rootR (itF (x * x)) = itF x := by
  have hw : Wh x := ⟨by omega, by omega⟩
  have hb := mul_bound (A := 32768) (B := 32768) (a := x) (b := x) ⟨by omega, h1⟩ ⟨by omega, h1⟩
  have hm := mul_it hw hw (show Wh (x * x) from ⟨by omega, by omega⟩)
  rw [← hm]
  have := rootR_sq (n := x) (d := 1) (fine_it hw) (by omega) h1 (by decide)
  unfold itF
  rw [this]
  congr 1
  omega
theorem div_it {x y : Int} (hx : Wh x) (hy : Wh y) (hxy : Wh (x * y)) (h0 : y ≠ 0) : divR (itF (x * y)) (itF y) = itF x := by
  refine toQ_div (fine_it hxy) (fine_it hy) h0 (toQ (itF x)) ?_ _ (fine_it hx) rfl
  unfold toQ itF
  rw [Rat.divInt_mul_divInt, Int.one_mul]
/-- A lower triangle. -/
def Low {α : Type} (z : α) (s : Nat → Nat → α) : Prop := ∀ i k, i < k → s i k = z
/-- Its square, below the diagonal. -/
theorem mulI_low {s : Nat → Nat → Int} (h : Low 0 s) (i k : Nat) : ∀ M, k < M → mulI M s (fun i k => s k i) i k = mulI k s (fun i k => s k i) i k + s i k * s k k
  | 0, hk => by omega
  | M + 1, hk => by
    rw [mulI_succ]
    by_cases e : k = M
    · subst e; rfl
    · rw [mulI_low h i k M (by omega), h k M (by omega)]
      simp
/-- One more column of a root: sub, div, root, dot being those of a kind of numbers. -/
def rootStep {α : Type} (sub div : α → α → α) (root : α → α) (dot : List α → List α → α) (p m : Nat → Nat → α) (k i j : Nat) : α :=
  if j = k ∧ k ≤ i then (if i = k then root (sub (p k k) (dot (rowM k m k) (rowM k m k))) else div (sub (p i k) (dot (rowM k m i) (rowM k m k))) (root (sub (p k k) (dot (rowM k m k) (rowM k m k))))) else m i j
/-- The first columns of a root; the others are z. -/
def rootTo {α : Type} (sub div : α → α → α) (root : α → α) (dot : List α → List α → α) (z : α) (p : Nat → Nat → α) : Nat → Nat → Nat → α
  | 0 => fun _ _ => z
  | k + 1 => rootStep sub div root dot p (rootTo sub div root dot z p k) k
/-- The first columns of a triangle. -/
def colsTo {α : Type} (z : α) (s : Nat → Nat → α) (k i j : Nat) : α := if j < k then s i j else z
theorem dot_low {n : Nat} {s : Nat → Nat → Int} (hn : n ≤ 16) (hs : Sm2 100 n n s) {i j k : Nat} (hi : i < n) (hj : j < n) (hk : k ≤ n) :
    dotF ((rowM k s i).map itF) ((rowM k s j).map itF) = itF (mulI k s (fun i k => s k i) i j) ∧ -(10000 * (k : Int)) ≤ mulI k s (fun i k => s k i) i j ∧ mulI k s (fun i k => s k i) i j ≤ 10000 * (k : Int) := by
  have a : Sml 100 (rowM k s i) := row_sml (R := n) (C := k) (fun i' k' h1 h2 => hs i' k' h1 (by omega)) hi
  have b : Sml 100 (rowM k s j) := row_sml (R := n) (C := k) (fun i' k' h1 h2 => hs i' k' h1 (by omega)) hj
  constructor
  · rw [dot_it6 (A := 100) (B := 100) a b (by omega) (by omega) (by rw [rowM_len]; omega) (by omega)]
    rfl
  · have := mulI_bound (A := 100) (B := 100) (R := n) (M := n) (D := n) (a := s) (b := fun i k => s k i) (by omega) (by omega) hs (fun i k hi hk => hs k i hk hi) hi hj k hk
    constructor <;> omega
/-- The root of a triangle's square is it, in fractions. -/
theorem rootTo_it {n : Nat} {s : Nat → Nat → Int} (hn : n ≤ 16) (hs : Sm2 100 n n s) (hl : Low 0 s) (hd : ∀ k, k < n → 0 < s k k) :
    ∀ k, k ≤ n → ∀ i j, i < n → j < n → rootTo subR divR rootR dotF (itF 0) (fun i k => itF (mulI n s (fun i k => s k i) i k)) k i j = itF (colsTo 0 s k i j)
  | 0, _, i, j, _, _ => by simp [rootTo, colsTo]
  | k + 1, hk, i, j, hi, hj => by
    have ih := rootTo_it hn hs hl hd k (by omega)
    have hrow : ∀ i, i < n → rowM k (rootTo subR divR rootR dotF (itF 0) (fun i k => itF (mulI n s (fun i k => s k i) i k)) k) i = (rowM k s i).map itF := fun i hi => by
      unfold rowM
      rw [List.map_map]
      refine List.map_congr_left fun j hj => ?_
      have hj' : j < k := by simpa using hj
      rw [ih i j hi (by omega)]
      simp [colsTo, hj']
    have hkn : k < n := by omega
    have hsub : ∀ i, i < n → subR (itF (mulI n s (fun i k => s k i) i k)) (dotF ((rowM k s i).map itF) ((rowM k s k).map itF)) = itF (s i k * s k k) := fun i hi => by
      obtain ⟨e, b1, b2⟩ := dot_low hn hs hi hkn (k := k) (by omega)
      have e2 := mulI_low hl i k n hkn
      have b3 := mul_bound (A := 100) (B := 100) (hs i k hi hkn) (hs k k hkn hkn)
      rw [e, e2, sub_it ⟨by omega, by omega⟩ ⟨by omega, by omega⟩ ⟨by omega, by omega⟩]
      congr 1
      omega
    have hdk := hd k hkn
    have hb := hs k k hkn hkn
    have hroot : rootR (itF (s k k * s k k)) = itF (s k k) := root_it (by omega) (by omega)
    show rootStep subR divR rootR dotF _ _ k i j = _
    unfold rootStep
    rw [hrow i hi, hrow k hkn, hsub k hkn, hsub i hi, hroot]
    by_cases h : j = k ∧ k ≤ i
    · obtain ⟨rfl, hji⟩ := h
      rw [if_pos ⟨rfl, hji⟩]
      have ec : colsTo 0 s (j + 1) i j = s i j := by simp [colsTo]
      rw [ec]
      by_cases hij : i = j
      · subst hij; rw [if_pos rfl]
      · rw [if_neg hij]
        have b3 := mul_bound (A := 100) (B := 100) (hs i j hi hkn) hb
        have b4 := hs i j hi hkn
        exact div_it ⟨by omega, by omega⟩ ⟨by omega, by omega⟩ ⟨by omega, by omega⟩ (by omega)
    · rw [if_neg h, ih i j hi hj]
      unfold colsTo
      by_cases hjk : j < k
      · rw [if_pos hjk, if_pos (by omega)]
      · rw [if_neg hjk]
        by_cases hjk2 : j = k
        · subst hjk2
          rw [if_pos (by omega), hl i j (by omega)]
        · rw [if_neg (by omega)]
theorem rootTo_all {n : Nat} {s : Nat → Nat → Int} (hn : n ≤ 16) (hs : Sm2 100 n n s) (hl : Low 0 s) (hd : ∀ k, k < n → 0 < s k k) {i j : Nat} (hi : i < n) (hj : j < n) :
    rootTo subR divR rootR dotF (itF 0) (fun i k => itF (mulI n s (fun i k => s k i) i k)) n i j = itF (s i j) := by
  rw [rootTo_it hn hs hl hd n (Nat.le_refl _) i j hi hj]
  simp [colsTo, hj]
end Go.Proofs.YtbfdkahbnfpabaaGreat

/- What is told of fractions, as rational numbers: where what is told may be one, so may all that it came of, and it is the rational sum, product .. Mathematics alone. -/
namespace Go.Proofs.YtbfdkahbnfpabaaGreat
open Go.RowKit
set_option linter.unusedSimpArgs false
set_option linter.unusedVariables false

theorem wrong_nf : fineR wrongR = false := rfl
theorem ofQ_q {q : Rat} (h : fineR (ofQ q) = true) : toQ (ofQ q) = q := toQ_ofQ (by rw [← ofQ_fine]; exact h)
theorem add_q {a b : Fr} (h : fineR (addR a b) = true) : fineR a = true ∧ fineR b = true ∧ toQ (addR a b) = toQ a + toQ b := by
  cases ha : fineR a
  · unfold addR at h; rw [ha] at h; cases h
  cases hb : fineR b
  · unfold addR at h; rw [ha, hb] at h; cases h
  rw [addR_fine ha hb] at h ⊢
  exact ⟨rfl, rfl, ofQ_q h⟩
theorem sub_q {a b : Fr} (h : fineR (subR a b) = true) : fineR a = true ∧ fineR b = true ∧ toQ (subR a b) = toQ a - toQ b := by
  cases ha : fineR a
  · unfold subR at h; rw [ha] at h; cases h
  cases hb : fineR b
  · unfold subR at h; rw [ha, hb] at h; cases h
  rw [subR_fine ha hb] at h ⊢
  exact ⟨rfl, rfl, ofQ_q h⟩
theorem mul_q {a b : Fr} (h : fineR (mulR a b) = true) : fineR a = true ∧ fineR b = true ∧ toQ (mulR a b) = toQ a * toQ b := by
  cases ha : fineR a
  · unfold mulR at h; rw [ha] at h; cases h
  cases hb : fineR b
  · unfold mulR at h; rw [ha, hb] at h; cases h
  rw [mulR_fine ha hb] at h ⊢
  exact ⟨rfl, rfl, ofQ_q h⟩
theorem div_q {a b : Fr} (h : fineR (divR a b) = true) : fineR a = true ∧ fineR b = true ∧ toQ b ≠ 0 ∧ toQ (divR a b) = toQ a / toQ b := by
  cases ha : fineR a
  · unfold divR at h; rw [ha] at h; cases h
  cases hb : fineR b
  · unfold divR at h; rw [ha, hb] at h; cases h
  by_cases h0 : b.n = 0
  · unfold divR at h; rw [ha, hb, show decide (b.n ≠ 0) = false by simp [h0]] at h; cases h
  rw [divR_fine ha hb h0] at h ⊢
  exact ⟨rfl, rfl, toQ_ne hb h0, ofQ_q h⟩
/-- What a quotient is multiplied by undoes it. -/
theorem div_mul_q {a b : Fr} (h : fineR (divR a b) = true) : toQ (divR a b) * toQ b = toQ a := by
  obtain ⟨_, _, h0, e⟩ := div_q h
  rw [e, Rat.div_def, Rat.mul_assoc, Rat.inv_mul_cancel _ h0, Rat.mul_one]
theorem root_q {a : Fr} (h : fineR (rootR a) = true) : fineR a = true ∧ toQ (rootR a) * toQ (rootR a) = toQ a ∧ 0 ≤ (rootR a).n := by
  cases ha : fineR a
  · unfold rootR at h; rw [ha] at h; cases h
  unfold rootR at h ⊢
  rw [ha, if_pos rfl] at h ⊢
  cases he : eqR (mulR (tryR a) (tryR a)) a
  · rw [he, if_neg (by simp)] at h; cases h
  rw [he, if_pos rfl] at h
  rw [if_pos rfl]
  have e := eqR_iff.1 he
  have q := (mul_q (a := tryR a) (b := tryR a) (by rw [e]; exact ha)).2.2
  rw [e] at q
  exact ⟨rfl, q.symm, (flR_le (fineR_iff.1 ha).2.2.2.2.1).1⟩
/-- The sum of rational numbers. -/
def sumQ : List Rat → Rat
  | [] => 0
  | x :: xs => x + sumQ xs
theorem sumQ_append : ∀ (xs ys : List Rat), sumQ (xs ++ ys) = sumQ xs + sumQ ys
  | [], ys => by simp [sumQ, Rat.zero_add]
  | x :: xs, ys => by simp only [List.cons_append, sumQ]; rw [sumQ_append xs ys, Rat.add_assoc]
theorem fold_q : ∀ (xs : List Fr) (a : Fr), fineR (xs.foldl addR a) = true → fineR a = true ∧ (∀ x ∈ xs, fineR x = true) ∧ toQ (xs.foldl addR a) = toQ a + sumQ (xs.map toQ)
  | [], a, h => ⟨h, fun x hx => by simp at hx, by simp [sumQ, Rat.add_zero]⟩
  | y :: xs, a, h => by
    simp only [List.foldl_cons] at h ⊢
    obtain ⟨h1, h2, h3⟩ := fold_q xs (addR a y) h
    obtain ⟨g1, g2, g3⟩ := add_q h1
    refine ⟨g1, fun x hx => ?_, ?_⟩
    · rcases List.mem_cons.1 hx with rfl | hx
      · exact g2
      · exact h2 x hx
    · rw [h3, g3, List.map_cons, sumQ, Rat.add_assoc]
theorem new0_q : toQ (newR 0 1) = 0 := by
  rw [new_it (n := 0) ⟨by omega, by omega⟩]
  exact Rat.zero_divInt _
theorem sum_q {xs : List Fr} (h : fineR (sumF xs) = true) : (∀ x ∈ xs, fineR x = true) ∧ toQ (sumF xs) = sumQ (xs.map toQ) := by
  obtain ⟨_, h2, h3⟩ := fold_q xs _ h
  refine ⟨h2, ?_⟩
  rw [show sumF xs = xs.foldl addR (newR 0 1) from rfl, h3, new0_q, Rat.zero_add]
/-- The dot of rational numbers. -/
def dotQ (xs ys : List Rat) : Rat := sumQ (List.zipWith (· * ·) xs ys)
theorem muls_q : ∀ {xs ys : List Fr}, (∀ z ∈ List.zipWith mulR xs ys, fineR z = true) → (List.zipWith mulR xs ys).map toQ = List.zipWith (· * ·) (xs.map toQ) (ys.map toQ)
  | [], _, _ => by simp
  | _ :: _, [], _ => by simp
  | x :: xs, y :: ys, h => by
    simp only [List.zipWith_cons_cons, List.map_cons]
    rw [(mul_q (h (mulR x y) (by simp))).2.2, muls_q fun z hz => h z (by simp only [List.zipWith_cons_cons]; exact List.mem_cons_of_mem _ hz)]
theorem dot_q {xs ys : List Fr} (h : fineR (dotF xs ys) = true) : (∀ z ∈ List.zipWith mulR xs ys, fineR z = true) ∧ toQ (dotF xs ys) = dotQ (xs.map toQ) (ys.map toQ) := by
  obtain ⟨h1, h2⟩ := sum_q h
  refine ⟨h1, ?_⟩
  rw [show dotF xs ys = sumF (List.zipWith mulR xs ys) from rfl, h2, muls_q h1]
  rfl
theorem dotQ_snoc {xs ys : List Rat} (h : xs.length = ys.length) (x y : Rat) : dotQ (xs ++ [x]) (ys ++ [y]) = dotQ xs ys + x * y := by
  unfold dotQ
  rw [List.zipWith_append h, sumQ_append]
  simp [sumQ, Rat.add_zero]
theorem toQ_whole (n : Int) : toQ ⟨n, 1, false⟩ = (n : Rat) := by
  unfold toQ
  first | exact (Rat.intCast_eq_divInt n).symm | simp [Rat.divInt, Rat.mkRat_one] | exact (Rat.mkRat_one n)
/-- Fractions that are the same rational number are the same. -/
theorem fr_eq {a b : Fr} (ha : fineR a = true) (hb : fineR b = true) (h : toQ a = toQ b) : a = b := toQ_inj ha hb h
end Go.Proofs.YtbfdkahbnfpabaaGreat

/- The square of a root, of fractions (layer 7). Mathematics alone. -/
namespace Go.Proofs.YtbfdkahbnfpabaaGreat
open Go.RowKit
set_option linter.unusedSimpArgs false
set_option linter.unusedVariables false

theorem rootTo_stable {α : Type} {sub div : α → α → α} {root : α → α} {dot : List α → List α → α} {z : α} {p : Nat → Nat → α} {i j k : Nat} (hj : j < k) : ∀ m, k ≤ m → rootTo sub div root dot z p m i j = rootTo sub div root dot z p k i j
  | 0, h => by omega
  | m + 1, h => by
    by_cases e : k = m + 1
    · rw [e]
    · rw [← rootTo_stable hj m (by omega)]
      show rootStep _ _ _ _ _ _ m i j = _
      unfold rootStep
      rw [if_neg (by omega)]
theorem rootTo_up {α : Type} {sub div : α → α → α} {root : α → α} {dot : List α → List α → α} {z : α} {p : Nat → Nat → α} {i j : Nat} (h : i < j) : ∀ m, rootTo sub div root dot z p m i j = z
  | 0 => rfl
  | m + 1 => by
    show rootStep _ _ _ _ _ _ m i j = _
    unfold rootStep
    rw [if_neg (by omega)]
    exact rootTo_up h m
theorem rootTo_row {α : Type} {sub div : α → α → α} {root : α → α} {dot : List α → List α → α} {z : α} {p : Nat → Nat → α} {i k n : Nat} (h : k ≤ n) : rowM k (rootTo sub div root dot z p k) i = rowM k (rootTo sub div root dot z p n) i :=
  rowM_congr fun j hj => (rootTo_stable hj n h).symm
/-- What stands in a root, by itself. -/
theorem rootTo_eq {α : Type} {sub div : α → α → α} {root : α → α} {dot : List α → List α → α} {z : α} {p : Nat → Nat → α} {n i k : Nat} (hk : k < n) (hi : k ≤ i) {s : Nat → Nat → α} (hs : s = rootTo sub div root dot z p n) :
    s i k = if i = k then root (sub (p k k) (dot (rowM k s k) (rowM k s k))) else div (sub (p i k) (dot (rowM k s i) (rowM k s k))) (s k k) := by
  have e : ∀ i, k ≤ i → s i k = if i = k then root (sub (p k k) (dot (rowM k s k) (rowM k s k))) else div (sub (p i k) (dot (rowM k s i) (rowM k s k))) (root (sub (p k k) (dot (rowM k s k) (rowM k s k)))) := fun i hi => by
    rw [show s i k = rootTo sub div root dot z p (k + 1) i k by rw [hs]; exact rootTo_stable (by omega) n (by omega)]
    show rootStep _ _ _ _ _ _ k i k = _
    unfold rootStep
    rw [if_pos ⟨rfl, hi⟩, rootTo_row (i := i) (show k ≤ n by omega), rootTo_row (i := k) (show k ≤ n by omega), ← hs]
  rw [e i hi]
  by_cases h : i = k
  · rw [if_pos h, if_pos h]
  · rw [if_neg h, if_neg h, e k (Nat.le_refl _), if_pos rfl]
/-- A dot whose second row ends at k. -/
theorem dotQ_low {s : Nat → Nat → Rat} {i k : Nat} (h : ∀ j, k < j → s k j = 0) : ∀ n, k < n → dotQ (rowM n s i) (rowM n s k) = dotQ (rowM k s i) (rowM k s k) + s i k * s k k
  | 0, hk => by omega
  | n + 1, hk => by
    rw [rowM_succ, rowM_succ, dotQ_snoc (by rw [rowM_len, rowM_len])]
    by_cases e : k = n
    · subst e; rfl
    · rw [dotQ_low h n (by omega), h n (by omega), Rat.mul_zero, Rat.add_zero]
theorem row_q (k : Nat) (s : Nat → Nat → Fr) (i : Nat) : (rowM k s i).map toQ = rowM k (fun i j => toQ (s i j)) i := by unfold rowM; rw [List.map_map]; rfl
theorem zip_mem {n : Nat} {s : Nat → Nat → Fr} {i k j : Nat} (hj : j < n) : mulR (s i j) (s k j) ∈ List.zipWith mulR (rowM n s i) (rowM n s k) := by
  refine List.mem_of_getElem? (i := j) ?_
  rw [List.getElem?_zipWith, rowM_get s i hj, rowM_get s k hj]
/-- The square of a root, where it may be one, is what it is the root of. -/
theorem root_square {n : Nat} {p s : Nat → Nat → Fr} {z : Fr} (hz : toQ z = 0) (hs : s = rootTo subR divR rootR dotF z p n) {i k : Nat} (hk : k < n) (hi : k ≤ i) (hf : fineR (dotF (rowM n s i) (rowM n s k)) = true) :
    dotF (rowM n s i) (rowM n s k) = p i k := by
  obtain ⟨hall, hq⟩ := dot_q hf
  have hup : ∀ j, k < j → toQ (s k j) = 0 := fun j hj => by rw [hs, rootTo_up hj n]; exact hz
  rw [row_q, row_q, dotQ_low (s := fun i j => toQ (s i j)) hup n hk] at hq
  have hm := mul_q (hall _ (zip_mem (i := i) (k := k) hk))
  have e := rootTo_eq hk hi hs
  have ek := rootTo_eq hk (Nat.le_refl k) hs
  rw [if_pos rfl] at ek
  by_cases h : i = k
  · subst h
    have hr := root_q (a := subR (p i i) (dotF (rowM i s i) (rowM i s i))) (by rw [← ek]; exact hm.1)
    rw [← ek] at hr
    obtain ⟨f1, f2, f3⟩ := sub_q hr.1
    refine fr_eq hf f1 ?_
    rw [hq, hr.2.1, f3, (dot_q f2).2, row_q, Rat.add_comm, Rat.sub_eq_add_neg, Rat.add_assoc, Rat.neg_add_cancel, Rat.add_zero]
  · rw [if_neg h] at e
    have hdv : fineR (divR (subR (p i k) (dotF (rowM k s i) (rowM k s k))) (s k k)) = true := by rw [← e]; exact hm.1
    have hmq := div_mul_q hdv
    rw [← e] at hmq
    obtain ⟨f1, f2, f3⟩ := sub_q (div_q hdv).1
    refine fr_eq hf f1 ?_
    rw [hq, hmq, f3, (dot_q f2).2, row_q, row_q, Rat.add_comm, Rat.sub_eq_add_neg, Rat.add_assoc, Rat.neg_add_cancel, Rat.add_zero]
end Go.Proofs.YtbfdkahbnfpabaaGreat
