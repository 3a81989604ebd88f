/- Contract of tri's Is, of fractions (layer 7), of whatever function value zero is. -/
import Derived.Test.YtljmggemdkfbiaaGreatTrAF
import Derived.Test.YtljmggemdkfbiaaGreatMaEF
import Derived.Laws.EntriesVeiled
namespace Go.Proofs.YtljmggemdkfbiaaGreat
open Go.RowKit Go.Shelf
set_option linter.unusedSimpArgs false
set_option linter.unusedVariables false
attribute [local go_sem] Oper.semAt_some
/-- The address of a row's others: of none that could be read it stays. -/
def dropP7 (p : Option Addr) (cap m s : Nat) : Option Addr := if cap = m then p else p.map fun a => a.add (m * s)
theorem Tryz.drop7F (p : Option Addr) (n cap m : Nat) (w : World) (h : m ≤ n) (hc : n ≤ cap) : (Instr.sliceAt 28 (.slice p n cap) (some (.int .i64 m)) none none).run Tryz.prog w = .ok (.slice (dropP7 p cap m 3) (n - m) (cap - m)) w := by
  have hu : Tryz.prog.underlying 28 = some (.slice (Tryz.prog.elem 28)) := by kernel_rfl
  obtain ⟨i0, hi, hz0, hz1, hz2⟩ := info_parts Tryz.info_F
  have he : Tryz.prog.elem 28 = 34 := by kernel_rfl
  rw [run_sliceAt_slice (h := hu), run_slice_l (ht := hu) (h0 := by omega) (h1 := by omega), he]
  by_cases hcm : cap = m
  · simp [sizeOf, typeInfo, hi, sliced, Result.andThen, hz1, dropP7, hcm]
  · have hcm' : ¬ cap - m = 0 := by omega
    simp [sizeOf, typeInfo, hi, sliced, Result.andThen, hz1, dropP7, hcm, hcm']
theorem Rw.drop7 {α : Type} {s : Nat} {c : α → List Value} {w : World} {p : Option Addr} {cap l : Nat} {xs : List α} (h : Rw s c w (.slice p l cap) xs) (hl : l = xs.length) (n : Nat) (hn : n ≤ xs.length) :
    Rw s c w (.slice (dropP7 p cap n s) (l - n) (cap - n)) (xs.drop n) := by
  subst hl
  rcases h with ⟨e, rfl⟩ | ⟨b, o, cap', e, hc, hb, hx⟩
  · cases e
    obtain rfl : n = 0 := by simpa using hn
    exact .inl ⟨rfl, rfl⟩
  · cases e
    unfold dropP7
    split
    · rename_i hcn
      have hd : xs.drop n = [] := List.drop_eq_nil_of_le (by omega)
      rw [hd]
      exact .inr ⟨b, o, cap - n, by simp; omega, by simp, hb, fun j x hj => by simp at hj⟩
    · have hadd : (⟨b, o, none⟩ : Addr).add (n * s) = ⟨b, o + n * s, none⟩ := by unfold Addr.add; split <;> simp_all
      refine .inr ⟨b, o + n * s, cap - n, ?_, by simp; omega, hb, fun j x hj k u hu => ?_⟩
      · simp [hadd]
      · rw [List.getElem?_drop] at hj
        have := hx (n + j) x hj k u hu
        rwa [show o + (n + j) * s + k = o + n * s + j * s + k by rw [Nat.add_mul]; omega] at this

/-- What is above the diagonal, told by b. -/
def aboveB (n : Nat) (f : Nat → Nat → Fr) (b : Fr → Bool) : Bool := (List.range n).all fun i => (List.range n).all fun k => decide (k ≤ i) || b (f i k)
theorem aboveB_iff {n : Nat} {f : Nat → Nat → Fr} {b : Fr → Bool} : aboveB n f b = true ↔ ∀ i k, i < k → k < n → b (f i k) = true := by
  unfold aboveB
  simp only [List.all_eq_true, List.mem_range, Bool.or_eq_true, decide_eq_true_eq]
  constructor
  · intro h i k hik hk
    exact (h i (by omega) k hk).resolve_left (by omega)
  · intro h i hi k hk
    by_cases hki : k ≤ i
    · exact .inl hki
    · exact .inr (h i k (by omega) hk)
theorem aboveB_no {n : Nat} {f : Nat → Nat → Fr} {b : Fr → Bool} {i k : Nat} (hik : i < k) (hk : k < n) (h : b (f i k) = false) : aboveB n f b = false := by
  cases e : aboveB n f b with
  | false => rfl
  | true =>
    have := aboveB_iff.1 e i k hik hk
    rw [h] at this
    cases this
theorem isBox_own {X Y : World} {B B0 : Nat} {t : TypeId} {v : Value} {row : Option Nat} (h : Boxed X B t v) (hg : X.grownBy Y row) (h0 : B < B0) (hr : ∀ r, row = some r → B0 ≤ r ∧ ∃ o : Obj, X.heap[r]? = some o ∧ o.isCells = false) : Boxed Y B t v :=
  (hg.block B h.lt (fun e => by have := (hr B e.symm).1; omega)).trans h
end Go.Proofs.YtljmggemdkfbiaaGreat
