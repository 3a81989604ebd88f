/- Matrices as lists, row by row (layer 6). Mathematics alone. -/
import Derived.Test.YtljmggemdkfbiaaGreatRfv
namespace Go.Proofs.YtljmggemdkfbiaaGreat
open Go.RowKit
set_option linter.unusedSimpArgs false
set_option linter.unusedVariables false

/-- A matrix's row. -/
def rowM {α : Type} (C : Nat) (f : Nat → Nat → α) (i : Nat) : List α := (List.range C).map (f i)
/-- A matrix's column. -/
def colM {α : Type} (R : Nat) (f : Nat → Nat → α) (k : Nat) : List α := (List.range R).map (fun i => f i k)
/-- All its numbers, row by row. -/
def mk {α : Type} (R C : Nat) (f : Nat → Nat → α) : List α := (List.range R).flatMap (rowM C f)
theorem rowM_len {α : Type} (C : Nat) (f : Nat → Nat → α) (i : Nat) : (rowM C f i).length = C := by simp [rowM]
theorem colM_len {α : Type} (R : Nat) (f : Nat → Nat → α) (i : Nat) : (colM R f i).length = R := by simp [colM]
theorem mk_succ {α : Type} (R C : Nat) (f : Nat → Nat → α) : mk (R + 1) C f = mk R C f ++ rowM C f R := by simp [mk, List.range_succ]
theorem mk_zero {α : Type} (C : Nat) (f : Nat → Nat → α) : mk 0 C f = [] := rfl
theorem mk_len {α : Type} (R C : Nat) (f : Nat → Nat → α) : (mk R C f).length = R * C := by
  induction R with
  | zero => simp [mk]
  | succ R ih => rw [mk_succ, List.length_append, ih, rowM_len, Nat.succ_mul]
theorem rowM_succ {α : Type} (C : Nat) (f : Nat → Nat → α) (i : Nat) : rowM (C + 1) f i = rowM C f i ++ [f i C] := by simp [rowM, List.range_succ]
theorem colM_succ {α : Type} (R : Nat) (f : Nat → Nat → α) (k : Nat) : colM (R + 1) f k = colM R f k ++ [f R k] := by simp [colM, List.range_succ]
theorem rowM_get {α : Type} {C : Nat} (f : Nat → Nat → α) (i : Nat) {k : Nat} (h : k < C) : (rowM C f i)[k]? = some (f i k) := by simp [rowM, h]
theorem colM_get {α : Type} {R : Nat} (f : Nat → Nat → α) (k : Nat) {i : Nat} (h : i < R) : (colM R f k)[i]? = some (f i k) := by simp [colM, h]
theorem mk_get {α : Type} {R C : Nat} (f : Nat → Nat → α) {i k : Nat} (hi : i < R) (hk : k < C) : (mk R C f)[i * C + k]? = some (f i k) := by
  induction R with
  | zero => omega
  | succ R ih =>
    rw [mk_succ]
    by_cases h : i < R
    · rw [List.getElem?_append_left (by rw [mk_len]; calc i * C + k < i * C + C := by omega
        _ = (i + 1) * C := by rw [Nat.succ_mul]
        _ ≤ R * C := Nat.mul_le_mul_right _ h)]
      exact ih h
    · obtain rfl : i = R := by omega
      rw [List.getElem?_append_right (by rw [mk_len]; omega), mk_len, Nat.add_sub_cancel_left]
      exact rowM_get f i hk
theorem mk_idx {R C i k : Nat} (hi : i < R) (hk : k < C) : i * C + k < R * C := by
  calc i * C + k < i * C + C := by omega
    _ = (i + 1) * C := by rw [Nat.succ_mul]
    _ ≤ R * C := Nat.mul_le_mul_right _ hi
theorem mk_row {α : Type} {R C : Nat} (f : Nat → Nat → α) {i : Nat} (hi : i < R) : ((mk R C f).drop (i * C)).take C = rowM C f i := by
  refine List.ext_getElem? fun k => ?_
  rw [List.getElem?_take]
  by_cases hk : k < C
  · rw [if_pos hk, List.getElem?_drop, mk_get f hi hk, rowM_get f i hk]
  · rw [if_neg hk]
    have : (rowM C f i)[k]? = none := by rw [List.getElem?_eq_none_iff, rowM_len]; omega
    rw [this]
theorem mk_ext {α : Type} {R C : Nat} (f : Nat → Nat → α) (xs : List α) (hl : xs.length = R * C) (h : ∀ i k, i < R → k < C → xs[i * C + k]? = some (f i k)) : xs = mk R C f := by
  refine List.ext_getElem? fun j => ?_
  by_cases hj : j < R * C
  · have hC : 0 < C := by rcases Nat.eq_zero_or_pos C with h0 | h0; · subst h0; simp at hj
                          · exact h0
    have hi : j / C < R := (Nat.div_lt_iff_lt_mul hC).2 hj
    have hk : j % C < C := Nat.mod_lt _ hC
    have e : j / C * C + j % C = j := by rw [Nat.mul_comm]; exact Nat.div_add_mod j C
    have h1 := h _ _ hi hk
    have h2 := mk_get f hi hk
    rw [e] at h1 h2
    rw [h1, h2]
  · rw [List.getElem?_eq_none_iff.2 (by omega), List.getElem?_eq_none_iff.2 (by rw [mk_len]; omega)]
theorem mk_of {α : Type} {R C : Nat} (d : α) (xs : List α) (hl : xs.length = R * C) : xs = mk R C (fun i k => xs.getD (i * C + k) d) :=
  mk_ext _ xs hl fun i k hi hk => by
    have := mk_idx hi hk
    simp [List.getElem?_eq_getElem (show i * C + k < xs.length by omega)]
theorem mk_congr {α : Type} {R C : Nat} {f g : Nat → Nat → α} (h : ∀ i k, i < R → k < C → f i k = g i k) : mk R C f = mk R C g :=
  mk_ext _ _ (mk_len R C f) fun i k hi hk => by rw [mk_get f hi hk, h i k hi hk]
theorem rowM_congr {α : Type} {C : Nat} {f g : Nat → Nat → α} {i : Nat} (h : ∀ k, k < C → f i k = g i k) : rowM C f i = rowM C g i :=
  List.map_congr_left fun k hk => h k (by simpa using hk)
theorem mk_inj {α : Type} {R C : Nat} {f g : Nat → Nat → α} (h : mk R C f = mk R C g) {i k : Nat} (hi : i < R) (hk : k < C) : f i k = g i k := by
  have h1 := mk_get f hi hk
  rw [h, mk_get g hi hk] at h1
  exact (Option.some.inj h1).symm
theorem mk_map {α β : Type} {R C : Nat} (f : Nat → Nat → α) (g : α → β) : (mk R C f).map g = mk R C (fun i k => g (f i k)) :=
  mk_ext _ _ (by rw [List.length_map, mk_len]) fun i k hi hk => by rw [List.getElem?_map, mk_get f hi hk]; rfl
theorem mk_zip {α β γ : Type} {R C : Nat} (op : α → β → γ) (f : Nat → Nat → α) (g : Nat → Nat → β) : List.zipWith op (mk R C f) (mk R C g) = mk R C (fun i k => op (f i k) (g i k)) :=
  mk_ext _ _ (by rw [List.length_zipWith, mk_len, mk_len, Nat.min_self]) fun i k hi hk => by rw [List.getElem?_zipWith, mk_get f hi hk, mk_get g hi hk]
/-- Columns of one, then of another one. -/
def besideM {α : Type} (C : Nat) (f g : Nat → Nat → α) (i k : Nat) : α := if k < C then f i k else g i (k - C)
theorem rowM_beside {α : Type} (C D : Nat) (f g : Nat → Nat → α) (i : Nat) : rowM (C + D) (besideM C f g) i = rowM C f i ++ rowM D g i := by
  refine List.ext_getElem? fun k => ?_
  by_cases h : k < C
  · rw [rowM_get _ _ (by omega), List.getElem?_append_left (by rw [rowM_len]; exact h), rowM_get _ _ h]
    simp [besideM, h]
  · rw [List.getElem?_append_right (by rw [rowM_len]; omega), rowM_len]
    by_cases h2 : k < C + D
    · rw [rowM_get _ _ h2, rowM_get _ _ (by omega)]
      simp [besideM, h]
    · rw [List.getElem?_eq_none_iff.2 (by rw [rowM_len]; omega), List.getElem?_eq_none_iff.2 (by rw [rowM_len]; omega)]
theorem rowM_turn {α : Type} (R : Nat) (f : Nat → Nat → α) (k : Nat) : rowM R (fun i j => f j i) k = colM R f k := rfl
theorem mk_take {α : Type} (R C : Nat) (f : Nat → Nat → α) {i : Nat} (hi : i ≤ R) : (mk R C f).take (i * C) = mk i C f := by
  induction R with
  | zero => obtain rfl : i = 0 := by omega
            simp [mk]
  | succ R ih =>
    by_cases h : i ≤ R
    · rw [mk_succ, List.take_append_of_le_length (by rw [mk_len]; exact Nat.mul_le_mul_right _ h), ih h]
    · obtain rfl : i = R + 1 := by omega
      rw [List.take_of_length_le (by rw [mk_len]; omega)]
/-- Sides that may be. -/
structure Dim (R C : Nat) : Prop where
  r1 : 1 ≤ R
  r2 : R ≤ 16
  c1 : 1 ≤ C
  c2 : C ≤ 16
theorem Dim.turn {R C : Nat} (h : Dim R C) : Dim C R := ⟨h.c1, h.c2, h.r1, h.r2⟩
theorem Dim.lt {R C : Nat} (h : Dim R C) : R * C ≤ 256 := Nat.mul_le_mul h.r2 h.c2
/-- Whether so many numbers make a matrix of these sides. -/
def fitB (r c n : Int) : Bool := decide (1 ≤ r ∧ r ≤ 16 ∧ 1 ≤ c ∧ c ≤ 16 ∧ n = r * c)
theorem fitB_nat {r c : Int} {n : Nat} (h : fitB r c n = true) : ∃ R C : Nat, r = R ∧ c = C ∧ Dim R C ∧ n = R * C := by
  obtain ⟨h1, h2, h3, h4, h5⟩ := of_decide_eq_true h
  refine ⟨r.toNat, c.toNat, by omega, by omega, ⟨by omega, by omega, by omega, by omega⟩, ?_⟩
  have e1 : (r.toNat : Int) = r := by omega
  have e2 : (c.toNat : Int) = c := by omega
  rw [← e1, ← e2, ← Int.natCast_mul] at h5
  exact Int.ofNat.inj h5
theorem fitB_dim {R C n : Nat} (h : Dim R C) (hn : n = R * C) : fitB R C n = true := by
  obtain ⟨h1, h2, h3, h4⟩ := h
  subst hn
  exact decide_eq_true ⟨by omega, by omega, by omega, by omega, Int.natCast_mul R C⟩
end Go.Proofs.YtljmggemdkfbiaaGreat
