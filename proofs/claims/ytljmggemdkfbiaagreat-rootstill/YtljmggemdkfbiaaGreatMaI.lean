/- Matrices of whole numbers, as fractions: contracts in the words of layer 6's laws; awake. -/
import Derived.Test.YtljmggemdkfbiaaGreatMaCF
import Derived.Test.YtljmggemdkfbiaaGreatMaQF
import Derived.Test.YtljmggemdkfbiaaGreatMaT
namespace Go.Proofs.YtljmggemdkfbiaaGreat
open Go.RowKit
set_option linter.unusedSimpArgs false
set_option linter.unusedVariables false

/-- All numbers of a matrix are so small. -/
def Sm2 (A : Int) (R C : Nat) (g : Nat → Nat → Int) : Prop := ∀ i k, i < R → k < C → -A ≤ g i k ∧ g i k ≤ A
/-- A matrix of whole numbers, as fractions. -/
abbrev MxI (w : World) (R C : Nat) (p : Option Addr) (n cap : Nat) (g : Nat → Nat → Int) : Prop := Mx 3 cellsF w R C p n cap (fun i k => itF (g i k))
theorem rowI_it (C : Nat) (g : Nat → Nat → Int) (i : Nat) : rowM C (fun i k => itF (g i k)) i = (rowM C g i).map itF := by simp [rowM]
theorem colI_it (R : Nat) (g : Nat → Nat → Int) (k : Nat) : colM R (fun i k => itF (g i k)) k = (colM R g k).map itF := by simp [colM]
theorem row_sml {A : Int} {R C : Nat} {g : Nat → Nat → Int} (h : Sm2 A R C g) {i : Nat} (hi : i < R) : Sml A (rowM C g i) := by
  intro x hx
  obtain ⟨k, hk, rfl⟩ := List.mem_map.1 hx
  exact h i k hi (by simpa using hk)
theorem col_sml {A : Int} {R C : Nat} {g : Nat → Nat → Int} (h : Sm2 A R C g) {k : Nat} (hk : k < C) : Sml A (colM R g k) := by
  intro x hx
  obtain ⟨i, hi, rfl⟩ := List.mem_map.1 hx
  exact h i k (by simpa using hi) hk
theorem mk_sml {A : Int} {R C : Nat} {g : Nat → Nat → Int} (h : Sm2 A R C g) : Sml A (mk R C g) := by
  intro x hx
  obtain ⟨i, hi, hx⟩ := List.mem_flatMap.1 hx
  exact row_sml h (by simpa using hi) x hx
/-- The dot of whole numbers that are small enough. -/
theorem dot_it6 {A B : Int} {xs ys : List Int} (h : Sml A xs) (k : Sml B ys) (hA : 0 ≤ A ∧ A ≤ 1073741824) (hB : 0 ≤ B ∧ B ≤ 1073741824) (hl : xs.length ≤ 16) (hAB : A * B ≤ 67108864) : dotF (xs.map itF) (ys.map itF) = itF (dotI xs ys) := by
  unfold dotF dotI
  have hp : 0 ≤ A * B := Int.mul_nonneg hA.1 hB.1
  rw [muls_it (by omega) (by omega) (by omega) xs ys h k]
  refine sum_it (B := A * B) _ (muls_sml h k) hp ?_
  have hln : (List.zipWith (· * ·) xs ys).length ≤ 16 := by simp; omega
  have := Int.mul_le_mul_of_nonneg_left (show ((List.zipWith (· * ·) xs ys).length : Int) ≤ 16 by omega) hp
  omega
theorem mulM_it {A B : Int} {R M D : Nat} {a b : Nat → Nat → Int} (ha : Sm2 A R M a) (hb : Sm2 B M D b) (hM : M ≤ 16) (hA : 0 ≤ A ∧ A ≤ 1073741824) (hB : 0 ≤ B ∧ B ≤ 1073741824) (hAB : A * B ≤ 67108864) {i k : Nat} (hi : i < R) (hk : k < D) :
    mulMF M (fun i k => itF (a i k)) (fun i k => itF (b i k)) i k = itF (mulI M a b i k) := by
  unfold mulMF mulI
  rw [rowI_it, colI_it]
  exact dot_it6 (row_sml ha hi) (col_sml hb hk) hA hB (by rw [rowM_len]; exact hM) hAB
theorem Mx.congr {α : Type} {s : Nat} {c : α → List Value} {w : World} {R C : Nat} {p : Option Addr} {n cap : Nat} {f g : Nat → Nat → α} (h : Mx s c w R C p n cap f) (e : ∀ i k, i < R → k < C → f i k = g i k) : Mx s c w R C p n cap g :=
  ⟨h.1, h.2.1, by rw [← mk_congr e]; exact h.2.2⟩
theorem mul6_any {A B : Int} (R M D : Nat) (p : Option Addr) (n cap : Nat) (a : Nat → Nat → Int) (q : Option Addr) (n2 cap2 : Nat) (b : Nat → Nat → Int) (N : Nat) (w : World) (hx : MxI w R M p n cap a) (hy : MxI w M D q n2 cap2 b) (hN : N = R * D) (ha : Sm2 A R M a) (hb : Sm2 B M D b) (hA : 0 ≤ A ∧ A ≤ 1073741824) (hB : 0 ≤ B ∧ B ≤ 1073741824) (hAB : A * B ≤ 67108864) :
    Calls Tryz.prog 87 #[mV R M p n cap, mV M D q n2 cap2] w fun e w' => ∃ p' cap', e = .returned (.tuple #[mV R D p' N cap', .bool true]) ∧ MxI w' R D p' N cap' (mulI M a b) ∧ Bl w w' := by
  refine (mMulF R M D p n cap _ q n2 cap2 _ N w hx hy hN).mono ?_
  rintro e w' ⟨p', cap', rfl, ⟨h, _, _⟩, hb'⟩
  exact ⟨p', cap', rfl, h.congr (fun i k hi hk => mulM_it ha hb hx.1.c2 hA hB hAB hi hk), hb'⟩
/-- Whole, of numbers that go together. -/
theorem whole6_any (r c : Int) (p : Option Addr) (n cap : Nat) (ns : List Int) (w : World) (hr : Rq 1 cI w (.slice p n cap) ns) (h : fitB r c n = true) (hn : ns.length = n) (hs : Sml 100 ns) :
    ∃ R C : Nat, r = R ∧ c = C ∧ Dim R C ∧ n = R * C ∧ Sm2 100 R C (ofL C ns) ∧ Calls Tryz.prog 12 #[.int .i64 r, .int .i64 c, .slice p n cap] w fun e w' => ∃ p' cap', e = .returned (.tuple #[mV R C p' n cap', .bool true]) ∧ MxI w' R C p' n cap' (ofL C ns) ∧ Bl w w' := by
  obtain ⟨R, C, rfl, rfl, hd, hn'⟩ := fitB_nat h
  refine ⟨R, C, rfl, rfl, hd, hn', ofL_sml (by omega) hs, ?_⟩
  refine (mWholeF R C p n cap ns w hr h hn).mono ?_
  rintro e w' ⟨p', cap', rfl, hR, hb⟩
  refine ⟨p', cap', rfl, ⟨hd, hn', ?_⟩, hb⟩
  have e : ns.map wholeF = mk R C (fun i k => itF (ofL C ns i k)) := by
    rw [wholes_it ns hs (by omega), ← mk_map, ← ofL_mk (by omega)]
  rw [← e]
  exact hR.q
theorem whole6_call (R C : Nat) (p : Option Addr) (n cap : Nat) (ns : List Int) (w : World) (hr : Rq 1 cI w (.slice p n cap) ns) (h : fitB R C n = true) (hn : ns.length = n) (hs : Sml 100 ns) :
    Calls Tryz.prog 12 #[.int .i64 R, .int .i64 C, .slice p n cap] w fun e w' => ∃ p' cap', e = .returned (.tuple #[mV R C p' n cap', .bool true]) ∧ MxI w' R C p' n cap' (ofL C ns) ∧ Bl w w' := by
  obtain ⟨R', C', h1, h2, _, _, _, h3⟩ := whole6_any R C p n cap ns w hr h hn hs
  obtain rfl : R = R' := by omega
  obtain rfl : C = C' := by omega
  exact h3
theorem rq_new4 (w : World) (x y z u : Int) (t : TypeId) : Rq 1 cI (w.alloc (.cells #[.int .i64 x, .int .i64 y, .int .i64 z, .int .i64 u] t)) (.slice (some ⟨w.heap.size, 0, none⟩) 4 4) [x, y, z, u] := by
  refine .inr ⟨w.heap.size, 0, 4, rfl, Nat.le_refl _, by simp, fun j v hj k s hu => ?_⟩
  rcases k with _ | k
  · simp at hu
    subst hu
    rcases j with _ | _ | _ | _ | j
    · simp at hj; subst hj; simp [go_sem]
    · simp at hj; subst hj; simp [go_sem]
    · simp at hj; subst hj; simp [go_sem]
    · simp at hj; subst hj; simp [go_sem]
    · simp at hj
  · simp at hu
/-- awake's two matrices. -/
theorem whole22 (x y z u : Int) (w : World) (t : TypeId) (hs : Sml 100 [x, y, z, u]) (b0 : Nat) (hb0 : b0 = w.heap.size) : Calls Tryz.prog 12 #[.int .i64 2, .int .i64 2, .slice (some ⟨b0, 0, none⟩) 4 4] (w.alloc (.cells #[.int .i64 x, .int .i64 y, .int .i64 z, .int .i64 u] t)) fun e w' => ∃ p' cap', e = .returned (.tuple #[mV 2 2 p' 4 cap', .bool true]) ∧ MxI w' 2 2 p' 4 cap' (ofL 2 [x, y, z, u]) ∧ Bl (w.alloc (.cells #[.int .i64 x, .int .i64 y, .int .i64 z, .int .i64 u] t)) w' := by
  subst hb0
  obtain ⟨R, C, h1, h2, _, _, _, h⟩ := whole6_any 2 2 _ 4 4 [x, y, z, u] _ (rq_new4 w x y z u t) (by decide) rfl hs
  obtain rfl : R = 2 := by omega
  obtain rfl : C = 2 := by omega
  exact h
end Go.Proofs.YtljmggemdkfbiaaGreat
