/- Whole numbers as points: their sums, products and dots, enclosed (layer 5's laws). Mathematics alone. -/
import Derived.Test.YtljmggemdkfbiaaGreatVeM
import Derived.Test.YtljmggemdkfbiaaGreatVeHN
import Derived.Test.YtljmggemdkfbiaaGreatEnL
import Derived.Test.YtljmggemdkfbiaaGreatEn5
namespace Go.Proofs.YtljmggemdkfbiaaGreat
open Go.RowKit
set_option linter.unusedSimpArgs false
set_option linter.unusedVariables false

/-- The point of a whole number. -/
def itN (n : Int) : En := ⟨n * 16777216, n * 16777216, n * 16777216, false⟩
/-- It may be one. -/
def Wn (n : Int) : Prop := -67108864 ≤ n ∧ n ≤ 67108864
theorem fr_it {n : Int} (h : Wn n) : frB (n * 16777216) = true := frB_eq (by unfold Wn at h; omega)
theorem fineN_it {n : Int} (h : Wn n) : fineB (itN n) = true := pt_fine (fr_it h)
theorem ofN_it {n : Int} (h : Wn n) : ptE (foN n) (foB n) = itN n := by
  have h1 : foB n = true := by unfold foB; unfold Wn at h; simp; omega
  rw [h1]
  unfold foN
  rw [h1]
  rfl
theorem addN_it {a b : Int} (ha : Wn a) (hb : Wn b) (h : Wn (a + b)) : addE (itN a) (itN b) = itN (a + b) := by
  have e : a * 16777216 + b * 16777216 = (a + b) * 16777216 := by omega
  have t := fa_told (fr_it ha) (fr_it hb) (by rw [e]; exact fr_it h)
  have ok : okE bA (itN a) (itN b) (prs2 (itN a) (itN b)) = true := okE_iff.2 ⟨t.1, fineN_it ha, fineN_it hb, by rw [show prs2 (itN a) (itN b) = prs2 ⟨a * 16777216, a * 16777216, a * 16777216, false⟩ ⟨b * 16777216, b * 16777216, b * 16777216, false⟩ from rfl, (same_prs2 _ _).ok]; unfold bA; rw [t.1]; rfl⟩
  have e1 := told_ok (N := nA) ok
  unfold addE
  rw [e1]
  have hs : Same (prs2 (itN a) (itN b)) (a * 16777216) (b * 16777216) := same_prs2 _ _
  rw [hs.low bdA, hs.high bdA]
  have hn : ∀ m, nA (a * 16777216) (b * 16777216) m = (a + b) * 16777216 := fun m => by show faN _ _ = _; rw [t.2, e]
  show (⟨nA (a * 16777216) (b * 16777216) 0, _, _, false⟩ : En) = _
  rw [hn, hn, hn]
  rfl
theorem rnd_it (x c m : Int) (hc : 0 < c) : rnd (x * c) c m = x := by
  unfold rnd
  have h1 : x * c / c = x := Int.mul_ediv_cancel _ (by omega)
  have h2 : -(-(x * c) / c) = x := by rw [← Int.neg_mul, Int.mul_ediv_cancel _ (by omega), Int.neg_neg]
  split
  · exact h1
  · split
    · exact h2
    · unfold evn
      have h3 : x * c % c = 0 := Int.mul_emod_left x c
      rw [h1, h3]
      simp
      omega
theorem mulN_it {a b : Int} (ha : Wn a) (hb : Wn b) (h : Wn (a * b)) : mulE (itN a) (itN b) = itN (a * b) := by
  have ex : a * 16777216 * (b * 16777216) = a * b * 16777216 * 16777216 := by rw [← Int.mul_assoc, Int.mul_right_comm a 16777216 b]
  have t : ∀ m, MD m → fmB (a * 16777216) (b * 16777216) m = true ∧ fmN (a * 16777216) (b * 16777216) m = a * b * 16777216 := fun m hm => by
    have := fm_told (fr_it ha) (fr_it hb) hm (by rw [ex, rnd_it _ _ _ (by decide)]; exact fr_it h)
    rw [ex, rnd_it _ _ _ (by decide)] at this
    exact this
  have hs : Same (prs4 (itN a) (itN b)) (a * 16777216) (b * 16777216) := same_prs4 _ _
  have ok : okE fmB (itN a) (itN b) (prs4 (itN a) (itN b)) = true := okE_iff.2 ⟨(t 0 (.inl rfl)).1, fineN_it ha, fineN_it hb, by rw [hs.ok, (t 1 (.inr (.inl rfl))).1, (t 2 (.inr (.inr rfl))).1]; rfl⟩
  have e1 := told_ok (N := fmN) ok
  unfold mulE
  rw [e1, hs.low bdM, hs.high bdM]
  show (⟨fmN (a * 16777216) (b * 16777216) 0, _, _, false⟩ : En) = _
  rw [(t 0 (.inl rfl)).2, (t 1 (.inr (.inl rfl))).2, (t 2 (.inr (.inr rfl))).2]
  rfl
theorem foldN_it {B : Int} : ∀ (ns : List Int) (s : Int), Sml B ns → 0 ≤ B → -67108864 + B * ns.length ≤ s → s ≤ 67108864 - B * ns.length → (ns.map itN).foldl addE (itN s) = itN (s + ns.sum)
  | [], s, _, _, _, _ => by simp
  | n :: ns, s, h, hB, h1, h2 => by
    have hn := h.head
    simp only [List.length_cons, Int.natCast_add, Int.mul_add] at h1 h2
    have hp : 0 ≤ B * ns.length := Int.mul_nonneg hB (by omega)
    rw [List.map_cons, List.foldl_cons, addN_it ⟨by omega, by omega⟩ ⟨by omega, by omega⟩ ⟨by omega, by omega⟩, foldN_it ns (s + n) h.tail hB (by omega) (by omega), List.sum_cons]
    congr 1
    omega
theorem sumN_it {B : Int} (ns : List Int) (h : Sml B ns) (hB : 0 ≤ B) (hb : B * ns.length ≤ 67108864) : sumN (ns.map itN) = itN ns.sum := by
  unfold sumN
  rw [ofN_it (n := 0) ⟨by omega, by omega⟩, foldN_it ns 0 h hB (by omega) (by omega)]
  simp
theorem wholesN_it {B : Int} (ns : List Int) (h : Sml B ns) (hb : B ≤ 67108864) : ns.map wholeN = ns.map itN :=
  List.map_congr_left fun x hx => ofN_it (by have := h x hx; exact ⟨by omega, by omega⟩)
theorem mulsN_it {A B : Int} (hA : A ≤ 67108864) (hB : B ≤ 67108864) (hAB : A * B ≤ 67108864) : ∀ (xs ys : List Int), Sml A xs → Sml B ys → List.zipWith mulE (xs.map itN) (ys.map itN) = (List.zipWith (· * ·) xs ys).map itN
  | [], _, _, _ => by simp
  | _ :: _, [], _, _ => by simp
  | x :: xs, y :: ys, h, k => by
    have h1 := h.head
    have h2 := k.head
    have h3 := mul_bound h1 h2
    rw [List.map_cons, List.map_cons, List.zipWith_cons_cons, List.zipWith_cons_cons, List.map_cons, mulN_it ⟨by omega, by omega⟩ ⟨by omega, by omega⟩ ⟨by omega, by omega⟩, mulsN_it hA hB hAB xs ys h.tail k.tail]
theorem dotN_it {xs ys : List Int} (h : Sml 1000 xs) (k : Sml 1000 ys) (hl : xs.length ≤ 20) : dotN (xs.map itN) (ys.map itN) = itN (dotI xs ys) := by
  unfold dotN dotI
  rw [mulsN_it (by omega) (by omega) (by omega) xs ys h k]
  refine sumN_it (B := 1000 * 1000) _ (muls_sml h k) (by omega) ?_
  have hln : (List.zipWith (· * ·) xs ys).length ≤ 20 := by simp; omega
  omega
theorem encl_it {n : Int} (h : Wn n) : enclB (itN n) n 1 = true := by
  unfold enclB withinB
  rw [fineN_it h, rightB_eq (by unfold Wn at h; omega), rightB_eq (n := 1) (by omega)]
  simp [itN]
end Go.Proofs.YtljmggemdkfbiaaGreat
