/- Whole numbers as fractions: their sums, products and dots (layer 5's laws). Mathematics alone. -/
import Derived.Test.YtljmggemdkfbiaaGreatFrN
import Derived.Test.YtljmggemdkfbiaaGreatVeHF
namespace Go.Proofs.YtljmggemdkfbiaaGreat
open Go.RowKit
set_option linter.unusedSimpArgs false
set_option linter.unusedVariables false

/-- A whole number. -/
def itF (n : Int) : Fr := ⟨n, 1, false⟩
/-- It may be one. -/
def Wh (n : Int) : Prop := -1073741824 ≤ n ∧ n ≤ 1073741824
theorem fine_it {n : Int} (h : Wh n) : fineR (itF n) = true := fine_mk (by decide) (by decide) h.1 h.2 (by simp)
theorem low_it {n : Int} (h : Wh n) : lowR n 1 = itF n := by
  rw [lowR_pos n 1 (by decide) 1 (by simp)]
  have h1 : smB n = true := smB_iff.2 h
  have e1 : n.tdiv 1 = n := Int.tdiv_one n
  rw [e1, h1]
  rfl
theorem new_it {n : Int} (h : Wh n) : newR n 1 = itF n := by
  have h1 : gvB n = true := gvB_iff.2 (by have := h; unfold Wh at this; omega)
  unfold newR
  rw [h1, low_it h]
  rfl
theorem whole_it {n : Int} (h : Wh n) : wholeF n = itF n := new_it h
theorem add_it {a b : Int} (ha : Wh a) (hb : Wh b) (h : Wh (a + b)) : addR (itF a) (itF b) = itF (a + b) := by
  rw [addR_fine (fine_it ha) (fine_it hb), ← low_add (fine_it ha) (fine_it hb), ← low_it h]
  simp [itF]
theorem sub_it {a b : Int} (ha : Wh a) (hb : Wh b) (h : Wh (a - b)) : subR (itF a) (itF b) = itF (a - b) := by
  rw [subR_fine (fine_it ha) (fine_it hb), ← low_sub (fine_it ha) (fine_it hb), ← low_it h]
  simp [itF]
theorem mul_it {a b : Int} (ha : Wh a) (hb : Wh b) (h : Wh (a * b)) : mulR (itF a) (itF b) = itF (a * b) := by
  rw [mulR_fine (fine_it ha) (fine_it hb), ← low_mul (fine_it ha) (fine_it hb), ← low_it h]
  simp [itF]
/-- All are so small. -/
def Sml (B : Int) (ns : List Int) : Prop := ∀ x ∈ ns, -B ≤ x ∧ x ≤ B
theorem Sml.tail {B n : Int} {ns : List Int} (h : Sml B (n :: ns)) : Sml B ns := fun x hx => h x (List.mem_cons_of_mem _ hx)
theorem Sml.head {B n : Int} {ns : List Int} (h : Sml B (n :: ns)) : -B ≤ n ∧ n ≤ B := h n (List.mem_cons_self)
theorem Sml.take {B : Int} {ns : List Int} (h : Sml B ns) (k : Nat) : Sml B (ns.take k) := fun x hx => h x (List.mem_of_mem_take hx)
theorem Sml.drop {B : Int} {ns : List Int} (h : Sml B ns) (k : Nat) : Sml B (ns.drop k) := fun x hx => h x (List.mem_of_mem_drop hx)
theorem Sml.sum {B : Int} : ∀ {ns : List Int}, Sml B ns → -(B * ns.length) ≤ ns.sum ∧ ns.sum ≤ B * ns.length
  | [], _ => by simp
  | n :: ns, h => by
    have h1 := h.head
    have h2 := Sml.sum h.tail
    simp only [List.sum_cons, List.length_cons, Int.natCast_add, Int.mul_add]
    omega
theorem fold_it {B : Int} : ∀ (ns : List Int) (s : Int), Sml B ns → 0 ≤ B → -1073741824 + B * ns.length ≤ s → s ≤ 1073741824 - B * ns.length → (ns.map itF).foldl addR (itF s) = itF (s + ns.sum)
  | [], s, _, _, _, _ => by simp
  | n :: ns, s, h, hB, h1, h2 => by
    have hn := h.head
    simp only [List.length_cons, Int.natCast_add, Int.mul_add] at h1 h2
    have hp : 0 ≤ B * ns.length := Int.mul_nonneg hB (by omega)
    rw [List.map_cons, List.foldl_cons, add_it ⟨by omega, by omega⟩ ⟨by omega, by omega⟩ ⟨by omega, by omega⟩, fold_it ns (s + n) h.tail hB (by omega) (by omega), List.sum_cons]
    congr 1
    omega
theorem sum_it {B : Int} (ns : List Int) (h : Sml B ns) (hB : 0 ≤ B) (hb : B * ns.length ≤ 1073741824) : sumF (ns.map itF) = itF ns.sum := by
  unfold sumF
  rw [new_it (n := 0) ⟨by omega, by omega⟩, fold_it ns 0 h hB (by omega) (by omega)]
  simp
theorem wholes_it {B : Int} (ns : List Int) (h : Sml B ns) (hb : B ≤ 1073741824) : ns.map wholeF = ns.map itF :=
  List.map_congr_left fun x hx => whole_it (by have := h x hx; exact ⟨by omega, by omega⟩)
/-- The sum of all products. -/
def dotI (xs ys : List Int) : Int := (List.zipWith (· * ·) xs ys).sum
theorem mul_bound {a b A B : Int} (ha : -A ≤ a ∧ a ≤ A) (hb : -B ≤ b ∧ b ≤ B) : -(A * B) ≤ a * b ∧ a * b ≤ A * B := abs_mul_le ha.1 ha.2 hb.1 hb.2
theorem muls_sml {A B : Int} : ∀ {xs ys : List Int}, Sml A xs → Sml B ys → Sml (A * B) (List.zipWith (· * ·) xs ys)
  | [], _, _, _ => by intro x hx; simp at hx
  | _ :: _, [], _, _ => by intro x hx; simp at hx
  | x :: xs, y :: ys, h, k => by
    intro z hz
    rw [List.zipWith_cons_cons] at hz
    rcases List.mem_cons.1 hz with rfl | hz
    · exact mul_bound h.head k.head
    · exact muls_sml h.tail k.tail z hz
theorem muls_it {A B : Int} (hA : A ≤ 1073741824) (hB : B ≤ 1073741824) (hAB : A * B ≤ 1073741824) : ∀ (xs ys : List Int), Sml A xs → Sml B ys → List.zipWith mulR (xs.map itF) (ys.map itF) = (List.zipWith (· * ·) xs ys).map itF
  | [], _, _, _ => by simp
  | _ :: _, [], _, _ => by simp
  | x :: xs, y :: ys, h, k => by
    have h1 := h.head
    have h2 := k.head
    have h3 := mul_bound h1 h2
    rw [List.map_cons, List.map_cons, List.zipWith_cons_cons, List.zipWith_cons_cons, List.map_cons, mul_it ⟨by omega, by omega⟩ ⟨by omega, by omega⟩ ⟨by omega, by omega⟩, muls_it hA hB hAB xs ys h.tail k.tail]
theorem adds_it {A B : Int} (hA : A ≤ 1073741824) (hB : B ≤ 1073741824) (hAB : A + B ≤ 1073741824) : ∀ (xs ys : List Int), Sml A xs → Sml B ys → List.zipWith addR (xs.map itF) (ys.map itF) = (List.zipWith (· + ·) xs ys).map itF
  | [], _, _, _ => by simp
  | _ :: _, [], _, _ => by simp
  | x :: xs, y :: ys, h, k => by
    have h1 := h.head
    have h2 := k.head
    rw [List.map_cons, List.map_cons, List.zipWith_cons_cons, List.zipWith_cons_cons, List.map_cons, add_it ⟨by omega, by omega⟩ ⟨by omega, by omega⟩ ⟨by omega, by omega⟩, adds_it hA hB hAB xs ys h.tail k.tail]
theorem subs_it {A B : Int} (hA : A ≤ 1073741824) (hB : B ≤ 1073741824) (hAB : A + B ≤ 1073741824) : ∀ (xs ys : List Int), Sml A xs → Sml B ys → List.zipWith subR (xs.map itF) (ys.map itF) = (List.zipWith (· - ·) xs ys).map itF
  | [], _, _, _ => by simp
  | _ :: _, [], _, _ => by simp
  | x :: xs, y :: ys, h, k => by
    have h1 := h.head
    have h2 := k.head
    rw [List.map_cons, List.map_cons, List.zipWith_cons_cons, List.zipWith_cons_cons, List.map_cons, sub_it ⟨by omega, by omega⟩ ⟨by omega, by omega⟩ ⟨by omega, by omega⟩, subs_it hA hB hAB xs ys h.tail k.tail]
theorem adds_sml {A B : Int} : ∀ {xs ys : List Int}, Sml A xs → Sml B ys → Sml (A + B) (List.zipWith (· + ·) xs ys)
  | [], _, _, _ => by intro x hx; simp at hx
  | _ :: _, [], _, _ => by intro x hx; simp at hx
  | x :: xs, y :: ys, h, k => by
    intro z hz
    rw [List.zipWith_cons_cons] at hz
    have h1 := h.head
    have h2 := k.head
    rcases List.mem_cons.1 hz with rfl | hz
    · omega
    · exact adds_sml h.tail k.tail z hz
theorem subs_sml {A B : Int} : ∀ {xs ys : List Int}, Sml A xs → Sml B ys → Sml (A + B) (List.zipWith (· - ·) xs ys)
  | [], _, _, _ => by intro x hx; simp at hx
  | _ :: _, [], _, _ => by intro x hx; simp at hx
  | x :: xs, y :: ys, h, k => by
    intro z hz
    rw [List.zipWith_cons_cons] at hz
    have h1 := h.head
    have h2 := k.head
    rcases List.mem_cons.1 hz with rfl | hz
    · omega
    · exact subs_sml h.tail k.tail z hz
theorem scale_it {A B b : Int} (hA : A ≤ 1073741824) (hB : B ≤ 1073741824) (hAB : A * B ≤ 1073741824) (hb : -B ≤ b ∧ b ≤ B) (xs : List Int) (h : Sml A xs) : (xs.map itF).map (fun x => mulR x (itF b)) = (xs.map (· * b)).map itF := by
  rw [List.map_map, List.map_map]
  refine List.map_congr_left fun x hx => ?_
  have h1 := h x hx
  have h3 := mul_bound h1 hb
  exact mul_it ⟨by omega, by omega⟩ ⟨by omega, by omega⟩ ⟨by omega, by omega⟩
theorem scale_sml {A B b : Int} (hb : -B ≤ b ∧ b ≤ B) {xs : List Int} (h : Sml A xs) : Sml (A * B) (xs.map (· * b)) := by
  intro z hz
  obtain ⟨x, hx, rfl⟩ := List.mem_map.1 hz
  exact mul_bound (h x hx) hb
theorem dot_it {A B : Int} {xs ys : List Int} (h : Sml A xs) (k : Sml B ys) (hA : 0 ≤ A ∧ A ≤ 100000) (hB : 0 ≤ B ∧ B ≤ 2000) (hl : xs.length ≤ 20) (hAB : A * B ≤ 53687091) : dotF (xs.map itF) (ys.map itF) = itF (dotI xs ys) := by
  unfold dotF dotI
  have hp : 0 ≤ A * B := Int.mul_nonneg hA.1 hB.1
  rw [muls_it (by omega) (by omega) (by omega) xs ys h k]
  refine sum_it (B := A * B) _ (muls_sml h k) hp ?_
  have hln : (List.zipWith (· * ·) xs ys).length ≤ 20 := by simp; omega
  have := Int.mul_le_mul_of_nonneg_left (show ((List.zipWith (· * ·) xs ys).length : Int) ≤ 20 by omega) hp
  omega
theorem dotI_comm : ∀ (xs ys : List Int), dotI xs ys = dotI ys xs := fun xs ys => by
  unfold dotI
  rw [List.zipWith_comm]
  simp only [Int.mul_comm]
theorem dotI_add : ∀ (xs ys zs : List Int), xs.length = ys.length → dotI (List.zipWith (· + ·) xs ys) zs = dotI xs zs + dotI ys zs
  | [], [], _, _ => by simp [dotI]
  | x :: xs, y :: ys, [], _ => by simp [dotI]
  | x :: xs, y :: ys, z :: zs, h => by
    have ih := dotI_add xs ys zs (by simpa using h)
    unfold dotI at ih ⊢
    simp only [List.zipWith_cons_cons, List.sum_cons, ih, Int.add_mul]
    omega
  | [], _ :: _, _, h => by simp at h
  | _ :: _, [], _, h => by simp at h
theorem dotI_sub : ∀ (xs ys zs : List Int), xs.length = ys.length → dotI (List.zipWith (· - ·) xs ys) zs = dotI xs zs - dotI ys zs
  | [], [], _, _ => by simp [dotI]
  | x :: xs, y :: ys, [], _ => by simp [dotI]
  | x :: xs, y :: ys, z :: zs, h => by
    have ih := dotI_sub xs ys zs (by simpa using h)
    unfold dotI at ih ⊢
    simp only [List.zipWith_cons_cons, List.sum_cons, ih, Int.sub_mul]
    omega
  | [], _ :: _, _, h => by simp at h
  | _ :: _, [], _, h => by simp at h
theorem dotI_scale (b : Int) : ∀ (xs ys : List Int), dotI (xs.map (· * b)) ys = dotI xs ys * b
  | [], _ => by simp [dotI]
  | x :: xs, [] => by simp [dotI]
  | x :: xs, y :: ys => by
    have ih := dotI_scale b xs ys
    unfold dotI at ih ⊢
    simp only [List.map_cons, List.zipWith_cons_cons, List.sum_cons, ih, Int.add_mul]
    congr 1
    rw [Int.mul_assoc, Int.mul_comm b y, ← Int.mul_assoc]
theorem dotI_bound {A B : Int} {xs ys : List Int} (h : Sml A xs) (k : Sml B ys) (hA : 0 ≤ A) (hB : 0 ≤ B) (hl : xs.length ≤ 20) : -(A * B * 20) ≤ dotI xs ys ∧ dotI xs ys ≤ A * B * 20 := by
  have hp : 0 ≤ A * B := Int.mul_nonneg hA hB
  have h1 := (muls_sml h k).sum
  have hln : (List.zipWith (· * ·) xs ys).length ≤ 20 := by simp; omega
  have := Int.mul_le_mul_of_nonneg_left (show ((List.zipWith (· * ·) xs ys).length : Int) ≤ 20 by omega) hp
  unfold dotI
  omega
end Go.Proofs.YtljmggemdkfbiaaGreat
