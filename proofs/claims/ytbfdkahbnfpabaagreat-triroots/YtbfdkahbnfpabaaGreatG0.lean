/- The square of a root, of fractions (layer 7). Mathematics alone. -/
import Derived.Test.YtbfdkahbnfpabaaGreatFrN
import Derived.Test.YtbfdkahbnfpabaaGreatVeHF
import Derived.Test.YtbfdkahbnfpabaaGreatVeR
import Derived.Test.YtbfdkahbnfpabaaGreatTimes
import Derived.Test.YtbfdkahbnfpabaaGreatMa0
import Derived.Test.YtbfdkahbnfpabaaGreatWlr
import Derived.Test.YtbfdkahbnfpabaaGreatMaCF
import Derived.Test.YtbfdkahbnfpabaaGreatMaQF
/- Whole numbers as fractions: their sums, products and dots (layer 5's laws). Mathematics alone. -/
namespace Go.Proofs.YtbfdkahbnfpabaaGreat
open Go.RowKit
set_option linter.unusedSimpArgs false
set_option linter.unusedVariables false

/-- A whole number. -/
def itF (n : Int) : Fr := ⟨n, 1, false⟩
/-- It may be one. -/
def Wh (n : Int) : Prop := -1073741824 ≤ n ∧ n ≤ 1073741824
theorem fine_it {n : Int} (h : Wh n) : fineR (itF n) = true := fine_mk (by decide) (by decide) h.1 h.2 (by simp)
theorem low_it {n : Int} (h : Wh n) : lowR n 1 = itF n := by
  rw [lowR_pos n 1 (by decide) 1 (by simp)]
  have h1 : smB n = true := smB_iff.2 h
  have e1 : n.tdiv 1 = n := Int.tdiv_one n
  rw [e1, h1]
  rfl
theorem new_it {n : Int} (h : Wh n) : newR n 1 = itF n := by
  have h1 : gvB n = true := gvB_iff.2 (by have := h; unfold Wh at this; omega)
  unfold newR
  rw [h1, low_it h]
  rfl
theorem whole_it {n : Int} (h : Wh n) : wholeF n = itF n := new_it h
theorem add_it {a b : Int} (ha : Wh a) (hb : Wh b) (h : Wh (a + b)) : addR (itF a) (itF b) = itF (a + b) := by
  rw [addR_fine (fine_it ha) (fine_it hb), ← low_add (fine_it ha) (fine_it hb), ← low_it h]
  simp [itF]
theorem sub_it {a b : Int} (ha : Wh a) (hb : Wh b) (h : Wh (a - b)) : subR (itF a) (itF b) = itF (a - b) := by
  rw [subR_fine (fine_it ha) (fine_it hb), ← low_sub (fine_it ha) (fine_it hb), ← low_it h]
  simp [itF]
theorem mul_it {a b : Int} (ha : Wh a) (hb : Wh b) (h : Wh (a * b)) : mulR (itF a) (itF b) = itF (a * b) := by
  rw [mulR_fine (fine_it ha) (fine_it hb), ← low_mul (fine_it ha) (fine_it hb), ← low_it h]
  simp [itF]
/-- All are so small. -/
def Sml (B : Int) (ns : List Int) : Prop := ∀ x ∈ ns, -B ≤ x ∧ x ≤ B
theorem Sml.tail {B n : Int} {ns : List Int} (h : Sml B (n :: ns)) : Sml B ns := fun x hx => h x (List.mem_cons_of_mem _ hx)
theorem Sml.head {B n : Int} {ns : List Int} (h : Sml B (n :: ns)) : -B ≤ n ∧ n ≤ B := h n (List.mem_cons_self)
theorem Sml.take {B : Int} {ns : List Int} (h : Sml B ns) (k : Nat) : Sml B (ns.take k) := fun x hx => h x (List.mem_of_mem_take hx)
theorem Sml.drop {B : Int} {ns : List Int} (h : Sml B ns) (k : Nat) : Sml B (ns.drop k) := fun x hx => h x (List.mem_of_mem_drop hx)
theorem Sml.sum {B : Int} : ∀ {ns : List Int}, Sml B ns → -(B * ns.length) ≤ ns.sum ∧ ns.sum ≤ B * ns.length
  | [], _ => by simp
  | n :: ns, h => by
    have h1 := h.head
    have h2 := Sml.sum h.tail
    simp only [List.sum_cons, List.length_cons, Int.natCast_add, Int.mul_add]
    omega
theorem fold_it {B : Int} : ∀ (ns : List Int) (s : Int), Sml B ns → 0 ≤ B → -1073741824 + B * ns.length ≤ s → s ≤ 1073741824 - B * ns.length → (ns.map itF).foldl addR (itF s) = itF (s + ns.sum)
  | [], s, _, _, _, _ => by simp
  | n :: ns, s, h, hB, h1, h2 => by
    have hn := h.head
    simp only [List.length_cons, Int.natCast_add, Int.mul_add] at h1 h2
    have hp : 0 ≤ B * ns.length := Int.mul_nonneg hB (by omega)
    rw [List.map_cons, List.foldl_cons, add_it ⟨by omega, by omega⟩ ⟨by omega, by omega⟩ ⟨by omega, by omega⟩, fold_it ns (s + n) h.tail hB (by omega) (by omega), List.sum_cons]
    congr 1
    omega
theorem sum_it {B : Int} (ns : List Int) (h : Sml B ns) (hB : 0 ≤ B) (hb : B * ns.length ≤ 1073741824) : sumF (ns.map itF) = itF ns.sum := by
  unfold sumF
  rw [new_it (n := 0) ⟨by omega, by omega⟩, fold_it ns 0 h hB (by omega) (by omega)]
  simp
theorem wholes_it {B : Int} (ns : List Int) (h : Sml B ns) (hb : B ≤ 1073741824) : ns.map wholeF = ns.map itF :=
  List.map_congr_left fun x hx => whole_it (by have := h x hx; exact ⟨by omega, by omega⟩)
/-- The sum of all products. -/
def dotI (xs ys : List Int) : Int := (List.zipWith (· * ·) xs ys).sum
theorem mul_bound {a b A B : Int} (ha : -A ≤ a ∧ a ≤ A) (hb : -B ≤ b ∧ b ≤ B) : -(A * B) ≤ a * b ∧ a * b ≤ A * B := abs_mul_le ha.1 ha.2 hb.1 hb.2
theorem muls_sml {A B : Int} : ∀ {xs ys : List Int}, Sml A xs → Sml B ys → Sml (A * B) (List.zipWith (· * ·) xs ys)
  | [], _, _, _ => by intro x hx; simp at hx
  | _ :: _, [], _, _ => by intro x hx; simp at hx
  | x :: xs, y :: ys, h, k => by
    intro z hz
    rw [List.zipWith_cons_cons] at hz
    rcases List.mem_cons.1 hz with rfl | hz
    · exact mul_bound h.head k.head
    · exact muls_sml h.tail k.tail z hz
theorem muls_it {A B : Int} (hA : A ≤ 1073741824) (hB : B ≤ 1073741824) (hAB : A * B ≤ 1073741824) : ∀ (xs ys : List Int), Sml A xs → Sml B ys → List.zipWith mulR (xs.map itF) (ys.map itF) = (List.zipWith (· * ·) xs ys).map itF
  | [], _, _, _ => by simp
  | _ :: _, [], _, _ => by simp
  | x :: xs, y :: ys, h, k => by
    have h1 := h.head
    have h2 := k.head
    have h3 := mul_bound h1 h2
    rw [List.map_cons, List.map_cons, List.zipWith_cons_cons, List.zipWith_cons_cons, List.map_cons, mul_it ⟨by omega, by omega⟩ ⟨by omega, by omega⟩ ⟨by omega, by omega⟩, muls_it hA hB hAB xs ys h.tail k.tail]
theorem adds_it {A B : Int} (hA : A ≤ 1073741824) (hB : B ≤ 1073741824) (hAB : A + B ≤ 1073741824) : ∀ (xs ys : List Int), Sml A xs → Sml B ys → List.zipWith addR (xs.map itF) (ys.map itF) = (List.zipWith (· + ·) xs ys).map itF
  | [], _, _, _ => by simp
  | _ :: _, [], _, _ => by simp
  | x :: xs, y :: ys, h, k => by
    have h1 := h.head
    have h2 := k.head
    rw [List.map_cons, List.map_cons, List.zipWith_cons_cons, List.zipWith_cons_cons, List.map_cons, add_it ⟨by omega, by omega⟩ ⟨by omega, by omega⟩ ⟨by omega, by omega⟩, adds_it hA hB hAB xs ys h.tail k.tail]
theorem subs_it {A B : Int} (hA : A ≤ 1073741824) (hB : B ≤ 1073741824) (hAB : A + B ≤ 1073741824) : ∀ (xs ys : List Int), Sml A xs → Sml B ys → List.zipWith subR (xs.map itF) (ys.map itF) = (List.zipWith (· - ·) xs ys).map itF
  | [], _, _, _ => by simp
  | _ :: _, [], _, _ => by simp
  | x :: xs, y :: ys, h, k => by
    have h1 := h.head
    have h2 := k.head
    rw [List.map_cons, List.map_cons, List.zipWith_cons_cons, List.zipWith_cons_cons, List.map_cons, sub_it ⟨by omega, by omega⟩ ⟨by omega, by omega⟩ ⟨by omega, by omega⟩, subs_it hA hB hAB xs ys h.tail k.tail]
theorem adds_sml {A B : Int} : ∀ {xs ys : List Int}, Sml A xs → Sml B ys → Sml (A + B) (List.zipWith (· + ·) xs ys)
  | [], _, _, _ => by intro x hx; simp at hx
  | _ :: _, [], _, _ => by intro x hx; simp at hx
  | x :: xs, y :: ys, h, k => by
    intro z hz
    rw [List.zipWith_cons_cons] at hz
    have h1 := h.head
    have h2 := k.head
    rcases List.mem_cons.1 hz with rfl | hz
    · omega
    · exact adds_sml h.tail k.tail z hz
theorem subs_sml {A B : Int} : ∀ {xs ys : List Int}, Sml A xs → Sml B ys → Sml (A + B) (List.zipWith (· - ·) xs ys)
  | [], _, _, _ => by intro x hx; simp at hx
  | _ :: _, [], _, _ => by intro x hx; simp at hx
  | x :: xs, y :: ys, h, k => by
    intro z hz
    rw [List.zipWith_cons_cons] at hz
    have h1 := h.head
    have h2 := k.head
    rcases List.mem_cons.1 hz with rfl | hz
    · omega
    · exact subs_sml h.tail k.tail z hz
theorem scale_it {A B b : Int} (hA : A ≤ 1073741824) (hB : B ≤ 1073741824) (hAB : A * B ≤ 1073741824) (hb : -B ≤ b ∧ b ≤ B) (xs : List Int) (h : Sml A xs) : (xs.map itF).map (fun x => mulR x (itF b)) = (xs.map (· * b)).map itF := by
  rw [List.map_map, List.map_map]
  refine List.map_congr_left fun x hx => ?_
  have h1 := h x hx
  have h3 := mul_bound h1 hb
  exact mul_it ⟨by omega, by omega⟩ ⟨by omega, by omega⟩ ⟨by omega, by omega⟩
theorem scale_sml {A B b : Int} (hb : -B ≤ b ∧ b ≤ B) {xs : List Int} (h : Sml A xs) : Sml (A * B) (xs.map (· * b)) := by
  intro z hz
  obtain ⟨x, hx, rfl⟩ := List.mem_map.1 hz
  exact mul_bound (h x hx) hb
theorem dot_it {A B : Int} {xs ys : List Int} (h : Sml A xs) (k : Sml B ys) (hA : 0 ≤ A ∧ A ≤ 100000) (hB : 0 ≤ B ∧ B ≤ 2000) (hl : xs.length ≤ 20) (hAB : A * B ≤ 53687091) : dotF (xs.map itF) (ys.map itF) = itF (dotI xs ys) := by
  unfold dotF dotI
  have hp : 0 ≤ A * B := Int.mul_nonneg hA.1 hB.1
  rw [muls_it (by omega) (by omega) (by omega) xs ys h k]
  refine sum_it (B := A * B) _ (muls_sml h k) hp ?_
  have hln : (List.zipWith (· * ·) xs ys).length ≤ 20 := by simp; omega
  have := Int.mul_le_mul_of_nonneg_left (show ((List.zipWith (· * ·) xs ys).length : Int) ≤ 20 by omega) hp
  omega
theorem dotI_comm : ∀ (xs ys : List Int), dotI xs ys = dotI ys xs := fun xs ys => by
  unfold dotI
  rw [List.zipWith_comm]
  simp only [Int.mul_comm]
theorem dotI_add : ∀ (xs ys zs : List Int), xs.length = ys.length → dotI (List.zipWith (· + ·) xs ys) zs = dotI xs zs + dotI ys zs
  | [], [], _, _ => by simp [dotI]
  | x :: xs, y :: ys, [], _ => by simp [dotI]
  | x :: xs, y :: ys, z :: zs, h => by
    have ih := dotI_add xs ys zs (by simpa using h)
    unfold dotI at ih ⊢
    simp only [List.zipWith_cons_cons, List.sum_cons, ih, Int.add_mul]
    omega
  | [], _ :: _, _, h => by simp at h
  | _ :: _, [], _, h => by simp at h
theorem dotI_sub : ∀ (xs ys zs : List Int), xs.length = ys.length → dotI (List.zipWith (· - ·) xs ys) zs = dotI xs zs - dotI ys zs
  | [], [], _, _ => by simp [dotI]
  | x :: xs, y :: ys, [], _ => by simp [dotI]
  | x :: xs, y :: ys, z :: zs, h => by
    have ih := dotI_sub xs ys zs (by simpa using h)
    unfold dotI at ih ⊢
    simp only [List.zipWith_cons_cons, List.sum_cons, ih, Int.sub_mul]
    omega
  | [], _ :: _, _, h => by simp at h
  | _ :: _, [], _, h => by simp at h
theorem dotI_scale (b : Int) : ∀ (xs ys : List Int), dotI (xs.map (· * b)) ys = dotI xs ys * b
  | [], _ => by simp [dotI]
  | x :: xs, [] => by simp [dotI]
  | x :: xs, y :: ys => by
    have ih := dotI_scale b xs ys
    unfold dotI at ih ⊢
    simp only [List.map_cons, List.zipWith_cons_cons, List.sum_cons, ih, Int.add_mul]
    congr 1
    rw [Int.mul_assoc, Int.mul_comm b y, ← Int.mul_assoc]
theorem dotI_bound {A B : Int} {xs ys : List Int} (h : Sml A xs) (k : Sml B ys) (hA : 0 ≤ A) (hB : 0 ≤ B) (hl : xs.length ≤ 20) : -(A * B * 20) ≤ dotI xs ys ∧ dotI xs ys ≤ A * B * 20 := by
  have hp : 0 ≤ A * B := Int.mul_nonneg hA hB
  have h1 := (muls_sml h k).sum
  have hln : (List.zipWith (· * ·) xs ys).length ≤ 20 := by simp; omega
  have := Int.mul_le_mul_of_nonneg_left (show ((List.zipWith (· * ·) xs ys).length : Int) ≤ 20 by omega) hp
  unfold dotI
  omega
end Go.Proofs.YtbfdkahbnfpabaaGreat

/- What layer 5's laws ask with: Few, the document's Dot, awake. -/
namespace Go.Proofs.YtbfdkahbnfpabaaGreat
open Go.RowKit
set_option linter.unusedSimpArgs false
set_option linter.unusedVariables false

/-- A whole number's cells. -/
abbrev cI : Int → List Value := fun n => [.int .i64 n]
theorem cellI {w wr : World} {b o : Nat} {ns : List Int} (HX : ∀ j x, ns[j]? = some x → ∀ k u, (cI x)[k]? = some u → w.cell? ⟨b, o + j * 1 + k, none⟩ = some u) {k : Nat} {x : Int} (hx : ns[k]? = some x) : w.cell? ⟨b, o + k, none⟩ = some (.int .i64 x) := by
  have := HX k x hx 0 _ rfl
  simpa using this
/-- What Few tells. -/
def FewP (ns : List Int) (w : World) (e : Ending) (w' : World) : Prop := ∃ b, e = .returned (.bool b) ∧ (b = true → ns.length ≤ 20 ∧ Sml 1000 ns) ∧ w' = w
theorem fewP {ns : List Int} {w : World} (b : Bool) (h : b = true → ns.length ≤ 20 ∧ Sml 1000 ns) : FewP ns w (.returned (.bool b)) w := ⟨b, rfl, h, rfl⟩
/-- The world behind awake's two rows of whole numbers. -/
theorem rq_new2 (w : World) (x y : Int) (t : TypeId) : Rq 1 cI (w.alloc (.cells #[.int .i64 x, .int .i64 y] t)) (.slice (some ⟨w.heap.size, 0, none⟩) 2 2) [x, y] := by
  refine .inr ⟨w.heap.size, 0, 2, rfl, Nat.le_refl _, by simp, fun j z hj k u hu => ?_⟩
  rcases k with _ | k
  · simp at hu
    subst hu
    rcases j with _ | _ | j
    · simp at hj; subst hj; simp [go_sem]
    · simp at hj; subst hj; simp [go_sem]
    · simp at hj
  · simp at hu
theorem dotI_snoc (xs ys : List Int) (k : Nat) (x y : Int) (hx : xs[k]? = some x) (hy : ys[k]? = some y) : dotI (xs.take (k + 1)) (ys.take (k + 1)) = dotI (xs.take k) (ys.take k) + x * y := by
  have h1 := (List.getElem?_eq_some_iff.1 hx).1
  have h2 := (List.getElem?_eq_some_iff.1 hy).1
  unfold dotI
  rw [List.take_add_one, List.take_add_one, hx, hy, List.zipWith_append (by simp; omega)]
  simp
theorem dotI_take (xs ys : List Int) (k : Nat) (h : k = min xs.length ys.length) : dotI (xs.take k) (ys.take k) = dotI xs ys := by
  unfold dotI
  congr 1
  subst h
  rw [List.zipWith_eq_zipWith_take_min (l₁ := xs)]
theorem sum_few {ns : List Int} (h : Sml 1000 ns) (hl : ns.length ≤ 20) : sumF (ns.map wholeF) = itF ns.sum := by
  rw [wholes_it ns h (by omega)]
  exact sum_it ns h (by omega) (by omega)
end Go.Proofs.YtbfdkahbnfpabaaGreat

/- Contracts in the words of layer 5's laws: few whole numbers, as fractions; awake. -/
namespace Go.Proofs.YtbfdkahbnfpabaaGreat
open Go.RowKit
set_option linter.unusedSimpArgs false
set_option linter.unusedVariables false

theorem eqR_self (r : Fr) : eqR r r = true := eqR_iff.2 rfl
theorem eql_selfV (r : Fr) (w : World) : (binOp .eql 32 (frV r) (frV r)).run Tryz.prog w = .ok (.bool true) w := by rw [eql_fr, eqR_self]
theorem new_few {n : Int} (h : Wh n) (w : World) : Calls Tryz.prog 22 #[.int .i64 n, .int .i64 1] w fun e w' => e = .returned (frV (itF n)) ∧ Bl w w' := by
  rw [← new_it h]
  exact new_any n 1 w
/-- A row of whole numbers. -/
abbrev RwI (w : World) (v : Value) (ns : List Int) : Prop := Rw 3 cellsF w v (ns.map itF)
theorem rw_slice {w : World} {v : Value} {ns : List Int} (h : RwI w v ns) : ∃ p c, v = .slice p ns.length c ∧ ns.length ≤ c := by
  obtain ⟨p, c, e, h1, _⟩ := h.cut
  rw [List.length_map] at e h1
  exact ⟨p, c, e, h1⟩
theorem whole_few (v : Value) (ns : List Int) (w : World) (h : Rq 1 cI w v ns) (hs : Sml 1000 ns) (hl : ns.length ≤ 20) :
    Calls Tryz.prog 17 #[v] w fun e w' => ∃ p c, e = .returned (.slice p ns.length c) ∧ (RwI w' (.slice p ns.length c) ns ∧ ns.length ≤ c) ∧ Bl w w' := by
  refine (vWholeF v ns w h (by omega)).mono ?_
  rintro e w' ⟨u, rfl, hr, hb⟩
  rw [wholes_it ns hs (by omega)] at hr
  obtain ⟨p, c, rfl, hc⟩ := rw_slice hr
  exact ⟨p, c, rfl, ⟨hr, hc⟩, hb⟩
theorem add_few (va vb : Value) (xs ys : List Int) (w : World) (ha : RwI w va xs) (hb : RwI w vb ys) (hx : Sml 1000 xs) (hy : Sml 1000 ys) (hl : xs.length ≤ 20) (hm : ys.length ≤ 20) :
    Calls Tryz.prog 111 #[va, vb] w fun e w' => ∃ p c, e = .returned (.slice p (min xs.length ys.length) c) ∧ (RwI w' (.slice p (min xs.length ys.length) c) (List.zipWith (· + ·) xs ys) ∧ min xs.length ys.length ≤ c) ∧ Bl w w' := by
  refine (vAddF va vb _ _ w ha.q hb.q (by simp; omega) (by simp; omega)).mono ?_
  rintro e w' ⟨u, rfl, hr, hb⟩
  rw [adds_it (A := 1000) (B := 1000) (by omega) (by omega) (by omega) xs ys hx hy] at hr
  obtain ⟨p, c, rfl, hc⟩ := rw_slice hr
  rw [List.length_zipWith] at hr hc ⊢
  exact ⟨p, c, rfl, ⟨hr, hc⟩, hb⟩
theorem sub_few (va vb : Value) (xs ys : List Int) (w : World) (ha : RwI w va xs) (hb : RwI w vb ys) (hx : Sml 1000 xs) (hy : Sml 1000 ys) (hl : xs.length ≤ 20) (hm : ys.length ≤ 20) :
    Calls Tryz.prog 113 #[va, vb] w fun e w' => ∃ p c, e = .returned (.slice p (min xs.length ys.length) c) ∧ (RwI w' (.slice p (min xs.length ys.length) c) (List.zipWith (· - ·) xs ys) ∧ min xs.length ys.length ≤ c) ∧ Bl w w' := by
  refine (vSubF va vb _ _ w ha.q hb.q (by simp; omega) (by simp; omega)).mono ?_
  rintro e w' ⟨u, rfl, hr, hb⟩
  rw [subs_it (A := 1000) (B := 1000) (by omega) (by omega) (by omega) xs ys hx hy] at hr
  obtain ⟨p, c, rfl, hc⟩ := rw_slice hr
  rw [List.length_zipWith] at hr hc ⊢
  exact ⟨p, c, rfl, ⟨hr, hc⟩, hb⟩
theorem dot_few {A B : Int} (va vb : Value) (xs ys : List Int) (w : World) (ha : RwI w va xs) (hb : RwI w vb ys) (hx : Sml A xs) (hy : Sml B ys) (hA : 0 ≤ A ∧ A ≤ 100000) (hB : 0 ≤ B ∧ B ≤ 2000) (hAB : A * B ≤ 53687091) (hl : xs.length ≤ 20) (hm : ys.length ≤ 20) :
    Calls Tryz.prog 33 #[va, vb] w fun e w' => e = .returned (frV (itF (dotI xs ys))) ∧ Bl w w' := by
  rw [← dot_it hx hy hA hB hl hAB]
  exact vDotF va vb _ _ w ha.q hb.q (by simp; omega) (by simp; omega)
theorem sum_few' (v : Value) (xs : List Int) (w : World) (h : RwI w v xs) (hx : Sml 1000 xs) (hl : xs.length ≤ 20) :
    Calls Tryz.prog 54 #[v] w fun e w' => e = .returned (frV (itF xs.sum)) ∧ Bl w w' := by
  rw [← sum_it (B := 1000) xs hx (by omega) (by omega)]
  exact vsumF v _ w h.q (by simp; omega)
theorem sml12 : Sml 1000 [1, 2] := by intro x hx; simp at hx; omega
theorem sml34 : Sml 1000 [3, 4] := by intro x hx; simp at hx; omega
end Go.Proofs.YtbfdkahbnfpabaaGreat

/- Rows of whole numbers as they lie in memory (layer 5). -/
namespace Go.Proofs.YtbfdkahbnfpabaaGreat
open Go.RowKit
set_option linter.unusedSimpArgs false
set_option linter.unusedVariables false

theorem Tryz.info_I : (Tryz.prog.info? 3).map (fun i => (i.zero, i.size, i.bytes)) = some (some (.int .i64 0), 1, 8) := by kernel_rfl
/-- A number's cells. -/
def cellsI (x : Int) : List Value := [.int .i64 x]
theorem cellsI_len (x : Int) : (cellsI x).length = 1 := rfl
theorem oneI_cells (x : Int) : ∀ u ∈ cellsI x, u.oneCell' = true := by
  intro u hu
  unfold cellsI at hu
  simp only [List.mem_cons, List.not_mem_nil, or_false] at hu
  rcases hu with rfl
  rfl
end Go.Proofs.YtbfdkahbnfpabaaGreat

/- What layer 6's laws ask with: Few, the document's Right and Mul. -/
namespace Go.Proofs.YtbfdkahbnfpabaaGreat
open Go.RowKit
set_option linter.unusedSimpArgs false
set_option linter.unusedVariables false

/-- What Few tells. -/
def FewQ (ns : List Int) (w : World) (e : Ending) (w' : World) : Prop := ∃ b, e = .returned (.bool b) ∧ (b = true → ns.length ≤ 256 ∧ Sml 100 ns) ∧ w' = w
theorem fewQ {ns : List Int} {w : World} (b : Bool) (h : b = true → ns.length ≤ 256 ∧ Sml 100 ns) : FewQ ns w (.returned (.bool b)) w := ⟨b, rfl, h, rfl⟩
set_option maxHeartbeats 1000000 in
theorem few6_any (v : Value) (ns : List Int) (w : World) (h : Rq 1 cI w v ns) :
    Calls Tryz.prog 15 #[v] w (FewQ ns w) := by
  rcases h with ⟨p, cap, rfl, rfl, hpn⟩ | ⟨b, o, cap, rfl, hc, hb, hx⟩
  · go_enter Tryz.func15, Tryz.ntmps15
    go_wp2_with fail
    go_loopw [3] (fun i wr => i = .int .i64 0 ∧ wr = w) (fun _ _ => 0)
    case atStart => exact ⟨rfl, rfl⟩
    case round =>
      obtain ⟨rfl, rfl⟩ := hrel
      go_wp2
      go_ret
      exact fewQ _ (fun _ => ⟨by simp, fun x hx => by simp at hx⟩)
  · have HX := hideP hx
    clear hx
    go_enter Tryz.func15, Tryz.ntmps15
    go_wp2_with fail
    go_loopw [3] (fun i wr => ∃ k : Nat, i = .int .i64 k ∧ k ≤ ns.length ∧ k ≤ 257 ∧ Sml 100 (ns.take k) ∧ wr = w) (fun i _ => 257 - (intOf i).toNat)
    case atStart => exact ⟨0, rfl, Nat.zero_le _, Nat.zero_le _, fun x hx => by simp at hx, rfl⟩
    case round =>
      obtain ⟨k, rfl, hk, hk2, hS, rfl⟩ := hrel
      have HS := hideP hS
      clear hS
      by_cases hlt : k < ns.length ∧ k ≤ 256
      · obtain ⟨hlt, hlt2⟩ := hlt
        obtain ⟨x, hx⟩ : ∃ x, ns[k]? = some x := ⟨_, List.getElem?_eq_getElem hlt⟩
        have cx := cellI HX.out hx (wr := wr)
        have HT := hideP (show ns.take (k + 1) = ns.take k ++ [x] by rw [List.take_add_one, hx]; rfl)
        by_cases h1 : x < -100
        · go_wp2
          go_ret
          exact fewQ _ nofun
        · by_cases h2 : 100 < x
          · go_wp2
            go_ret
            exact fewQ _ nofun
          · go_wp2
            go_roundw
            case rel =>
              refine ⟨k + 1, by simp, hlt, by omega, ?_, trivial⟩
              rw [HT.out]
              intro y hy
              rcases List.mem_append.1 hy with hy | hy
              · exact HS.out y hy
              · simp at hy; omega
            case measure => simp [intOf]; omega
      · by_cases hl : ns.length ≤ 256
        · have hk' : k = ns.length := by omega
          subst hk'
          go_wp2
          go_ret
          exact fewQ _ (fun _ => ⟨hl, by have := HS.out; rwa [List.take_length] at this⟩)
        · have hk' : 256 < k := by omega
          have hl' : 256 < ns.length := by omega
          go_wp2
          all_goals
            go_ret
            exact fewQ _ (fun h => by simp at h; omega)
/-- A product's number, of whole numbers. -/
def mulI (M : Nat) (a b : Nat → Nat → Int) (i k : Nat) : Int := dotI (rowM M a i) (colM M b k)
theorem mulI_succ (M : Nat) (a b : Nat → Nat → Int) (i k : Nat) : mulI (M + 1) a b i k = mulI M a b i k + a i M * b M k := by
  unfold mulI dotI
  rw [rowM_succ, colM_succ, List.zipWith_append (by rw [rowM_len, colM_len])]
  simp
theorem mulI_zero (a b : Nat → Nat → Int) (i k : Nat) : mulI 0 a b i k = 0 := rfl
theorem mulI_bound {A B : Int} {R M D : Nat} {a b : Nat → Nat → Int} (hA : 0 ≤ A) (hB : 0 ≤ B) (ha : ∀ i k, i < R → k < M → -A ≤ a i k ∧ a i k ≤ A) (hb : ∀ i k, i < M → k < D → -B ≤ b i k ∧ b i k ≤ B) {i k : Nat} (hi : i < R) (hk : k < D) :
    ∀ m, m ≤ M → -(A * B * m) ≤ mulI m a b i k ∧ mulI m a b i k ≤ A * B * m := by
  intro m
  induction m with
  | zero => intro _; simp [mulI_zero]
  | succ m ih =>
    intro hm
    have h1 := ih (by omega)
    have h2 := mul_bound (ha i m hi (by omega)) (hb m k (by omega) hk)
    rw [mulI_succ]
    have : A * B * ((m + 1 : Nat) : Int) = A * B * (m : Int) + A * B := by rw [Int.natCast_add, Int.mul_add]; simp
    omega
/-- A row of whole numbers as a matrix. -/
def ofL (M : Nat) (ns : List Int) (i k : Nat) : Int := ns.getD (i * M + k) 0
theorem ofL_get {R M : Nat} {ns : List Int} (h : ns.length = R * M) {i k : Nat} (hi : i < R) (hk : k < M) : ns[i * M + k]? = some (ofL M ns i k) := by
  have := mk_idx hi hk
  simp [ofL, List.getElem?_eq_getElem (show i * M + k < ns.length by omega)]
theorem ofL_mk {R M : Nat} {ns : List Int} (h : ns.length = R * M) : ns = mk R M (ofL M ns) := mk_of 0 ns h
theorem ofL_sml {A : Int} {R M : Nat} {ns : List Int} (h : ns.length = R * M) (hs : Sml A ns) : ∀ i k, i < R → k < M → -A ≤ ofL M ns i k ∧ ofL M ns i k ≤ A := fun i k hi hk => hs _ (List.mem_of_getElem? (ofL_get h hi hk))
end Go.Proofs.YtbfdkahbnfpabaaGreat

/- Contracts of layer 6's Same, Alike. -/
namespace Go.Proofs.YtbfdkahbnfpabaaGreat
open Go.RowKit
set_option linter.unusedSimpArgs false
set_option linter.unusedVariables false

theorem neq_selfV (r : Fr) (w : World) : (binOp .neq 32 (frV r) (frV r)).run Tryz.prog w = .ok (.bool false) w := by
  rw [neq_fr, eqR_self]; rfl
set_option maxHeartbeats 1000000 in
theorem same6_any (r c : Int) (p : Option Addr) (n cap : Nat) (q : Option Addr) (cap2 : Nat) (ns : List Int) (w : World) (h : Rq 3 cellsF w (.slice p n cap) (ns.map itF)) (h2 : Rq 1 cI w (.slice q n cap2) ns) (hn : ns.length = n) (hs : ∀ x ∈ ns, Wh x) (hl : n ≤ 1000) :
    Calls Tryz.prog 13 #[mV r c p n cap, .int .i64 r, .int .i64 c, .slice q n cap2] w fun e w' => e = .returned (.bool true) ∧ Bl w w' := by
  have b0 : Bl w (w.alloc (.cells #[.int .i64 r, .int .i64 c, .slice p n cap] 28)) := (Bl.refl _).alloc _
  have EG := Tryz.frGuard
  have CA : ∀ k x, ns[k]? = some x → ∃ b o, p = some ⟨b, o, none⟩ ∧ ∀ u, Bl w u → u.cell? ⟨b, o + k * 3, none⟩ = some (.int .i64 x) ∧ u.cell? ⟨b, o + k * 3 + 1, none⟩ = some (.int .i64 1) ∧ u.cell? ⟨b, o + k * 3 + 2, none⟩ = some (.bool false) := by
    intro k x hk
    rcases h with ⟨_, _, _, h0, _⟩ | ⟨b, o, cc, e, _, hlt, HX⟩
    · have : ns = [] := by simpa using h0
      rw [this] at hk; simp at hk
    · cases e
      refine ⟨b, o, rfl, fun u hu => ?_⟩
      have hk' : (ns.map itF)[k]? = some (itF x) := by rw [List.getElem?_map, hk]; rfl
      exact ⟨(bl_cell hu _ _ hlt).trans (HX k _ hk' 0 _ rfl), (bl_cell hu _ _ hlt).trans (HX k _ hk' 1 _ rfl), (bl_cell hu _ _ hlt).trans (HX k _ hk' 2 _ rfl)⟩
  have CB : ∀ k x, ns[k]? = some x → ∃ b o, q = some ⟨b, o, none⟩ ∧ ∀ u, Bl w u → u.cell? ⟨b, o + k, none⟩ = some (.int .i64 x) := by
    intro k x hk
    rcases h2 with ⟨_, _, _, h0, _⟩ | ⟨b, o, cc, e, _, hlt, HX⟩
    · rw [h0] at hk; simp at hk
    · cases e
      exact ⟨b, o, rfl, fun u hu => (bl_cell hu _ _ hlt).trans (cellI HX hk (wr := w))⟩
  have HA := hideP CA
  have HB := hideP CB
  have HS := hideP hs
  have HN := hideP hn
  clear CA CB hs h h2 hn
  go_enter Tryz.func13, Tryz.ntmps13
  go_wp2_with fail
  go_loopw [32] (fun i wr => ∃ k : Nat, i = .int .i64 k ∧ k ≤ n ∧ Bl w wr) (fun i _ => n - (intOf i).toNat)
  case atStart => exact ⟨0, rfl, Nat.zero_le _, b0⟩
  case round =>
    obtain ⟨k, rfl, hk, bl⟩ := hrel
    by_cases hlt : k < n
    · obtain ⟨x, hx⟩ : ∃ x, ns[k]? = some x := ⟨_, List.getElem?_eq_getElem (by have := HN.out; omega)⟩
      obtain ⟨b, o, rfl, CX⟩ := HA.out k x hx
      obtain ⟨b', o', rfl, CY⟩ := HB.out k x hx
      obtain ⟨c0, c1, c2⟩ := CX wr bl
      have hw : Wh x := HS.out x (List.mem_of_getElem? hx)
      go_wp2_with fail
      obtain ⟨V, hV⟩ : ∃ V, V = wr.alloc (.cells #[.int .i64 x, .int .i64 1, .bool false] 32) := ⟨_, rfl⟩
      have bV : Bl w V := by rw [hV]; exact bl.alloc _
      have BX : FBox V wr.heap.size (itF x) := by rw [hV]; exact FBox.new wr (itF x) _
      have z0 := fun z : Wl V => (BX.later z.bl).c0
      have z1 := fun z : Wl V => (BX.later z.bl).c1
      have z2 := fun z : Wl V => (BX.later z.bl).c2
      have z3 := fun z : Wl V => CY z.w (bV.trans z.bl)
      have wne := wl_ne V
      have NW := hideP (fun z : Wl V => new_few (n := x) hw z.w)
      have ne1 := neq_selfV (itF x)
      rw [← hV]
      generalize hr : itF x = rr at *
      clear hr c0 c1 c2 CX CY BX hV
      refine wl_region V (Bl.refl _) (by kernel_rfl) (by kernel_rfl) ?_
      repeat (go_big_quiet_step (first | (go_at_call 22; exact wl_call (NW.out _))))
      refine wpQuiet_nil ?_
      intro _ hw'
      obtain ⟨z, hw''⟩ := hw'
      subst hw''
      clear wne z0 z1 z2 z3 ne1
      obtain ⟨w3, h3⟩ := z
      dsimp only
      go_wp2
      go_roundw
      case rel => exact ⟨k + 1, by simp, hlt, bV.trans h3⟩
      case measure => simp [intOf]; omega
    · obtain rfl : k = n := by omega
      go_wp2
      go_ret
      exact ⟨rfl, bl⟩
end Go.Proofs.YtbfdkahbnfpabaaGreat

/- Contract of layer 6's Alike. -/
namespace Go.Proofs.YtbfdkahbnfpabaaGreat
open Go.RowKit
set_option linter.unusedSimpArgs false
set_option linter.unusedVariables false

/-- Two rows of the same numbers, cell by cell. -/
theorem rq_cells {p : Option Addr} {n cap : Nat} {xs : List Fr} {w : World} (h : Rq 3 cellsF w (.slice p n cap) xs) : ∀ k x, xs[k]? = some x → ∃ b o, p = some ⟨b, o, none⟩ ∧ ∀ u, Bl w u → u.cell? ⟨b, o + k * 3, none⟩ = some (.int .i64 x.n) ∧ u.cell? ⟨b, o + k * 3 + 1, none⟩ = some (.int .i64 x.d) ∧ u.cell? ⟨b, o + k * 3 + 2, none⟩ = some (.bool x.bad) := by
  intro k x hk
  rcases h with ⟨_, _, _, h0, _⟩ | ⟨b, o, cc, e, _, hlt, HX⟩
  · rw [h0] at hk; simp at hk
  · cases e
    exact ⟨b, o, rfl, fun u hu => ⟨(bl_cell hu _ _ hlt).trans (HX k _ hk 0 _ rfl), (bl_cell hu _ _ hlt).trans (HX k _ hk 1 _ rfl), (bl_cell hu _ _ hlt).trans (HX k _ hk 2 _ rfl)⟩⟩
end Go.Proofs.YtbfdkahbnfpabaaGreat

/- Matrices of whole numbers, as fractions: contracts in the words of layer 6's laws; awake. -/
namespace Go.Proofs.YtbfdkahbnfpabaaGreat
open Go.RowKit
set_option linter.unusedSimpArgs false
set_option linter.unusedVariables false

/-- All numbers of a matrix are so small. -/
def Sm2 (A : Int) (R C : Nat) (g : Nat → Nat → Int) : Prop := ∀ i k, i < R → k < C → -A ≤ g i k ∧ g i k ≤ A
/-- A matrix of whole numbers, as fractions. -/
abbrev MxI (w : World) (R C : Nat) (p : Option Addr) (n cap : Nat) (g : Nat → Nat → Int) : Prop := Mx 3 cellsF w R C p n cap (fun i k => itF (g i k))
theorem rowI_it (C : Nat) (g : Nat → Nat → Int) (i : Nat) : rowM C (fun i k => itF (g i k)) i = (rowM C g i).map itF := by simp [rowM]
theorem colI_it (R : Nat) (g : Nat → Nat → Int) (k : Nat) : colM R (fun i k => itF (g i k)) k = (colM R g k).map itF := by simp [colM]
theorem row_sml {A : Int} {R C : Nat} {g : Nat → Nat → Int} (h : Sm2 A R C g) {i : Nat} (hi : i < R) : Sml A (rowM C g i) := by
  intro x hx
  obtain ⟨k, hk, rfl⟩ := List.mem_map.1 hx
  exact h i k hi (by simpa using hk)
theorem col_sml {A : Int} {R C : Nat} {g : Nat → Nat → Int} (h : Sm2 A R C g) {k : Nat} (hk : k < C) : Sml A (colM R g k) := by
  intro x hx
  obtain ⟨i, hi, rfl⟩ := List.mem_map.1 hx
  exact h i k (by simpa using hi) hk
theorem mk_sml {A : Int} {R C : Nat} {g : Nat → Nat → Int} (h : Sm2 A R C g) : Sml A (mk R C g) := by
  intro x hx
  obtain ⟨i, hi, hx⟩ := List.mem_flatMap.1 hx
  exact row_sml h (by simpa using hi) x hx
/-- The dot of whole numbers that are small enough. -/
theorem dot_it6 {A B : Int} {xs ys : List Int} (h : Sml A xs) (k : Sml B ys) (hA : 0 ≤ A ∧ A ≤ 1073741824) (hB : 0 ≤ B ∧ B ≤ 1073741824) (hl : xs.length ≤ 16) (hAB : A * B ≤ 67108864) : dotF (xs.map itF) (ys.map itF) = itF (dotI xs ys) := by
  unfold dotF dotI
  have hp : 0 ≤ A * B := Int.mul_nonneg hA.1 hB.1
  rw [muls_it (by omega) (by omega) (by omega) xs ys h k]
  refine sum_it (B := A * B) _ (muls_sml h k) hp ?_
  have hln : (List.zipWith (· * ·) xs ys).length ≤ 16 := by simp; omega
  have := Int.mul_le_mul_of_nonneg_left (show ((List.zipWith (· * ·) xs ys).length : Int) ≤ 16 by omega) hp
  omega
theorem mulM_it {A B : Int} {R M D : Nat} {a b : Nat → Nat → Int} (ha : Sm2 A R M a) (hb : Sm2 B M D b) (hM : M ≤ 16) (hA : 0 ≤ A ∧ A ≤ 1073741824) (hB : 0 ≤ B ∧ B ≤ 1073741824) (hAB : A * B ≤ 67108864) {i k : Nat} (hi : i < R) (hk : k < D) :
    mulMF M (fun i k => itF (a i k)) (fun i k => itF (b i k)) i k = itF (mulI M a b i k) := by
  unfold mulMF mulI
  rw [rowI_it, colI_it]
  exact dot_it6 (row_sml ha hi) (col_sml hb hk) hA hB (by rw [rowM_len]; exact hM) hAB
theorem Mx.congr {α : Type} {s : Nat} {c : α → List Value} {w : World} {R C : Nat} {p : Option Addr} {n cap : Nat} {f g : Nat → Nat → α} (h : Mx s c w R C p n cap f) (e : ∀ i k, i < R → k < C → f i k = g i k) : Mx s c w R C p n cap g :=
  ⟨h.1, h.2.1, by rw [← mk_congr e]; exact h.2.2⟩
theorem mul6_any {A B : Int} (R M D : Nat) (p : Option Addr) (n cap : Nat) (a : Nat → Nat → Int) (q : Option Addr) (n2 cap2 : Nat) (b : Nat → Nat → Int) (N : Nat) (w : World) (hx : MxI w R M p n cap a) (hy : MxI w M D q n2 cap2 b) (hN : N = R * D) (ha : Sm2 A R M a) (hb : Sm2 B M D b) (hA : 0 ≤ A ∧ A ≤ 1073741824) (hB : 0 ≤ B ∧ B ≤ 1073741824) (hAB : A * B ≤ 67108864) :
    Calls Tryz.prog 108 #[mV R M p n cap, mV M D q n2 cap2] w fun e w' => ∃ p' cap', e = .returned (.tuple #[mV R D p' N cap', .bool true]) ∧ MxI w' R D p' N cap' (mulI M a b) ∧ Bl w w' := by
  refine (mMulF R M D p n cap _ q n2 cap2 _ N w hx hy hN).mono ?_
  rintro e w' ⟨p', cap', rfl, ⟨h, _, _⟩, hb'⟩
  exact ⟨p', cap', rfl, h.congr (fun i k hi hk => mulM_it ha hb hx.1.c2 hA hB hAB hi hk), hb'⟩
/-- Whole, of numbers that go together. -/
theorem whole6_any (r c : Int) (p : Option Addr) (n cap : Nat) (ns : List Int) (w : World) (hr : Rq 1 cI w (.slice p n cap) ns) (h : fitB r c n = true) (hn : ns.length = n) (hs : Sml 100 ns) :
    ∃ R C : Nat, r = R ∧ c = C ∧ Dim R C ∧ n = R * C ∧ Sm2 100 R C (ofL C ns) ∧ Calls Tryz.prog 8 #[.int .i64 r, .int .i64 c, .slice p n cap] w fun e w' => ∃ p' cap', e = .returned (.tuple #[mV R C p' n cap', .bool true]) ∧ MxI w' R C p' n cap' (ofL C ns) ∧ Bl w w' := by
  obtain ⟨R, C, rfl, rfl, hd, hn'⟩ := fitB_nat h
  refine ⟨R, C, rfl, rfl, hd, hn', ofL_sml (by omega) hs, ?_⟩
  refine (mWholeF R C p n cap ns w hr h hn).mono ?_
  rintro e w' ⟨p', cap', rfl, hR, hb⟩
  refine ⟨p', cap', rfl, ⟨hd, hn', ?_⟩, hb⟩
  have e : ns.map wholeF = mk R C (fun i k => itF (ofL C ns i k)) := by
    rw [wholes_it ns hs (by omega), ← mk_map, ← ofL_mk (by omega)]
  rw [← e]
  exact hR.q
theorem whole6_call (R C : Nat) (p : Option Addr) (n cap : Nat) (ns : List Int) (w : World) (hr : Rq 1 cI w (.slice p n cap) ns) (h : fitB R C n = true) (hn : ns.length = n) (hs : Sml 100 ns) :
    Calls Tryz.prog 8 #[.int .i64 R, .int .i64 C, .slice p n cap] w fun e w' => ∃ p' cap', e = .returned (.tuple #[mV R C p' n cap', .bool true]) ∧ MxI w' R C p' n cap' (ofL C ns) ∧ Bl w w' := by
  obtain ⟨R', C', h1, h2, _, _, _, h3⟩ := whole6_any R C p n cap ns w hr h hn hs
  obtain rfl : R = R' := by omega
  obtain rfl : C = C' := by omega
  exact h3
theorem rq_new4 (w : World) (x y z u : Int) (t : TypeId) : Rq 1 cI (w.alloc (.cells #[.int .i64 x, .int .i64 y, .int .i64 z, .int .i64 u] t)) (.slice (some ⟨w.heap.size, 0, none⟩) 4 4) [x, y, z, u] := by
  refine .inr ⟨w.heap.size, 0, 4, rfl, Nat.le_refl _, by simp, fun j v hj k s hu => ?_⟩
  rcases k with _ | k
  · simp at hu
    subst hu
    rcases j with _ | _ | _ | _ | j
    · simp at hj; subst hj; simp [go_sem]
    · simp at hj; subst hj; simp [go_sem]
    · simp at hj; subst hj; simp [go_sem]
    · simp at hj; subst hj; simp [go_sem]
    · simp at hj
  · simp at hu
/-- awake's two matrices. -/
theorem whole22 (x y z u : Int) (w : World) (t : TypeId) (hs : Sml 100 [x, y, z, u]) (b0 : Nat) (hb0 : b0 = w.heap.size) : Calls Tryz.prog 8 #[.int .i64 2, .int .i64 2, .slice (some ⟨b0, 0, none⟩) 4 4] (w.alloc (.cells #[.int .i64 x, .int .i64 y, .int .i64 z, .int .i64 u] t)) fun e w' => ∃ p' cap', e = .returned (.tuple #[mV 2 2 p' 4 cap', .bool true]) ∧ MxI w' 2 2 p' 4 cap' (ofL 2 [x, y, z, u]) ∧ Bl (w.alloc (.cells #[.int .i64 x, .int .i64 y, .int .i64 z, .int .i64 u] t)) w' := by
  subst hb0
  obtain ⟨R, C, h1, h2, _, _, _, h⟩ := whole6_any 2 2 _ 4 4 [x, y, z, u] _ (rq_new4 w x y z u t) (by decide) rfl hs
  obtain rfl : R = 2 := by omega
  obtain rfl : C = 2 := by omega
  exact h
end Go.Proofs.YtbfdkahbnfpabaaGreat

/- Roots of squares, and what is solved, of lower triangles (layer 7). Mathematics alone. -/
namespace Go.Proofs.YtbfdkahbnfpabaaGreat
open Go.RowKit
set_option linter.unusedSimpArgs false
set_option linter.unusedVariables false

theorem root_it {x : Int} (h0 : 0 ≤ x) (h1 : x ≤ 32768) : rootR (itF (x * x)) = itF x := by
  have hw : Wh x := ⟨by omega, by omega⟩
  have hb := mul_bound (A := 32768) (B := 32768) (a := x) (b := x) ⟨by omega, h1⟩ ⟨by omega, h1⟩
  have hm := mul_it hw hw (show Wh (x * x) from ⟨by omega, by omega⟩)
  rw [← hm]
  have := rootR_sq (n := x) (d := 1) (fine_it hw) (by omega) h1 (by decide)
  unfold itF
  rw [this]
  congr 1
  omega
theorem div_it {x y : Int} (hx : Wh x) (hy : Wh y) (hxy : Wh (x * y)) (h0 : y ≠ 0) : divR (itF (x * y)) (itF y) = itF x := by
  refine toQ_div (fine_it hxy) (fine_it hy) h0 (toQ (itF x)) ?_ _ (fine_it hx) rfl
  unfold toQ itF
  rw [Rat.divInt_mul_divInt, Int.one_mul]
/-- A lower triangle. -/
def Low {α : Type} (z : α) (s : Nat → Nat → α) : Prop := ∀ i k, i < k → s i k = z
/-- Its square, below the diagonal. -/
theorem mulI_low {s : Nat → Nat → Int} (h : Low 0 s) (i k : Nat) : ∀ M, k < M → mulI M s (fun i k => s k i) i k = mulI k s (fun i k => s k i) i k + s i k * s k k
  | 0, hk => by omega
  | M + 1, hk => by
    rw [mulI_succ]
    by_cases e : k = M
    · subst e; rfl
    · rw [mulI_low h i k M (by omega), h k M (by omega)]
      simp
/-- One more column of a root: sub, div, root, dot being those of a kind of numbers. -/
def rootStep {α : Type} (sub div : α → α → α) (root : α → α) (dot : List α → List α → α) (p m : Nat → Nat → α) (k i j : Nat) : α :=
  if j = k ∧ k ≤ i then (if i = k then root (sub (p k k) (dot (rowM k m k) (rowM k m k))) else div (sub (p i k) (dot (rowM k m i) (rowM k m k))) (root (sub (p k k) (dot (rowM k m k) (rowM k m k))))) else m i j
/-- The first columns of a root; the others are z. -/
def rootTo {α : Type} (sub div : α → α → α) (root : α → α) (dot : List α → List α → α) (z : α) (p : Nat → Nat → α) : Nat → Nat → Nat → α
  | 0 => fun _ _ => z
  | k + 1 => rootStep sub div root dot p (rootTo sub div root dot z p k) k
/-- The first columns of a triangle. -/
def colsTo {α : Type} (z : α) (s : Nat → Nat → α) (k i j : Nat) : α := if j < k then s i j else z
theorem dot_low {n : Nat} {s : Nat → Nat → Int} (hn : n ≤ 16) (hs : Sm2 100 n n s) {i j k : Nat} (hi : i < n) (hj : j < n) (hk : k ≤ n) :
    dotF ((rowM k s i).map itF) ((rowM k s j).map itF) = itF (mulI k s (fun i k => s k i) i j) ∧ -(10000 * (k : Int)) ≤ mulI k s (fun i k => s k i) i j ∧ mulI k s (fun i k => s k i) i j ≤ 10000 * (k : Int) := by
  have a : Sml 100 (rowM k s i) := row_sml (R := n) (C := k) (fun i' k' h1 h2 => hs i' k' h1 (by omega)) hi
  have b : Sml 100 (rowM k s j) := row_sml (R := n) (C := k) (fun i' k' h1 h2 => hs i' k' h1 (by omega)) hj
  constructor
  · rw [dot_it6 (A := 100) (B := 100) a b (by omega) (by omega) (by rw [rowM_len]; omega) (by omega)]
    rfl
  · have := mulI_bound (A := 100) (B := 100) (R := n) (M := n) (D := n) (a := s) (b := fun i k => s k i) (by omega) (by omega) hs (fun i k hi hk => hs k i hk hi) hi hj k hk
    constructor <;> omega
/-- The root of a triangle's square is it, in fractions. -/
theorem rootTo_it {n : Nat} {s : Nat → Nat → Int} (hn : n ≤ 16) (hs : Sm2 100 n n s) (hl : Low 0 s) (hd : ∀ k, k < n → 0 < s k k) :
    ∀ k, k ≤ n → ∀ i j, i < n → j < n → rootTo subR divR rootR dotF (itF 0) (fun i k => itF (mulI n s (fun i k => s k i) i k)) k i j = itF (colsTo 0 s k i j)
  | 0, _, i, j, _, _ => by simp [rootTo, colsTo]
  | k + 1, hk, i, j, hi, hj => by
    have ih := rootTo_it hn hs hl hd k (by omega)
    have hrow : ∀ i, i < n → rowM k (rootTo subR divR rootR dotF (itF 0) (fun i k => itF (mulI n s (fun i k => s k i) i k)) k) i = (rowM k s i).map itF := fun i hi => by
      unfold rowM
      rw [List.map_map]
      refine List.map_congr_left fun j hj => ?_
      have hj' : j < k := by simpa using hj
      rw [ih i j hi (by omega)]
      simp [colsTo, hj']
    have hkn : k < n := by omega
    have hsub : ∀ i, i < n → subR (itF (mulI n s (fun i k => s k i) i k)) (dotF ((rowM k s i).map itF) ((rowM k s k).map itF)) = itF (s i k * s k k) := fun i hi => by
      obtain ⟨e, b1, b2⟩ := dot_low hn hs hi hkn (k := k) (by omega)
      have e2 := mulI_low hl i k n hkn
      have b3 := mul_bound (A := 100) (B := 100) (hs i k hi hkn) (hs k k hkn hkn)
      rw [e, e2, sub_it ⟨by omega, by omega⟩ ⟨by omega, by omega⟩ ⟨by omega, by omega⟩]
      congr 1
      omega
    have hdk := hd k hkn
    have hb := hs k k hkn hkn
    have hroot : rootR (itF (s k k * s k k)) = itF (s k k) := root_it (by omega) (by omega)
    show rootStep subR divR rootR dotF _ _ k i j = _
    unfold rootStep
    rw [hrow i hi, hrow k hkn, hsub k hkn, hsub i hi, hroot]
    by_cases h : j = k ∧ k ≤ i
    · obtain ⟨rfl, hji⟩ := h
      rw [if_pos ⟨rfl, hji⟩]
      have ec : colsTo 0 s (j + 1) i j = s i j := by simp [colsTo]
      rw [ec]
      by_cases hij : i = j
      · subst hij; rw [if_pos rfl]
      · rw [if_neg hij]
        have b3 := mul_bound (A := 100) (B := 100) (hs i j hi hkn) hb
        have b4 := hs i j hi hkn
        exact div_it ⟨by omega, by omega⟩ ⟨by omega, by omega⟩ ⟨by omega, by omega⟩ (by omega)
    · rw [if_neg h, ih i j hi hj]
      unfold colsTo
      by_cases hjk : j < k
      · rw [if_pos hjk, if_pos (by omega)]
      · rw [if_neg hjk]
        by_cases hjk2 : j = k
        · subst hjk2
          rw [if_pos (by omega), hl i j (by omega)]
        · rw [if_neg (by omega)]
theorem rootTo_all {n : Nat} {s : Nat → Nat → Int} (hn : n ≤ 16) (hs : Sm2 100 n n s) (hl : Low 0 s) (hd : ∀ k, k < n → 0 < s k k) {i j : Nat} (hi : i < n) (hj : j < n) :
    rootTo subR divR rootR dotF (itF 0) (fun i k => itF (mulI n s (fun i k => s k i) i k)) n i j = itF (s i j) := by
  rw [rootTo_it hn hs hl hd n (Nat.le_refl _) i j hi hj]
  simp [colsTo, hj]
end Go.Proofs.YtbfdkahbnfpabaaGreat

/- What is told of fractions, as rational numbers: where what is told may be one, so may all that it came of, and it is the rational sum, product .. Mathematics alone. -/
namespace Go.Proofs.YtbfdkahbnfpabaaGreat
open Go.RowKit
set_option linter.unusedSimpArgs false
set_option linter.unusedVariables false

theorem wrong_nf : fineR wrongR = false := rfl
theorem ofQ_q {q : Rat} (h : fineR (ofQ q) = true) : toQ (ofQ q) = q := toQ_ofQ (by rw [← ofQ_fine]; exact h)
theorem add_q {a b : Fr} (h : fineR (addR a b) = true) : fineR a = true ∧ fineR b = true ∧ toQ (addR a b) = toQ a + toQ b := by
  cases ha : fineR a
  · unfold addR at h; rw [ha] at h; cases h
  cases hb : fineR b
  · unfold addR at h; rw [ha, hb] at h; cases h
  rw [addR_fine ha hb] at h ⊢
  exact ⟨rfl, rfl, ofQ_q h⟩
theorem sub_q {a b : Fr} (h : fineR (subR a b) = true) : fineR a = true ∧ fineR b = true ∧ toQ (subR a b) = toQ a - toQ b := by
  cases ha : fineR a
  · unfold subR at h; rw [ha] at h; cases h
  cases hb : fineR b
  · unfold subR at h; rw [ha, hb] at h; cases h
  rw [subR_fine ha hb] at h ⊢
  exact ⟨rfl, rfl, ofQ_q h⟩
theorem mul_q {a b : Fr} (h : fineR (mulR a b) = true) : fineR a = true ∧ fineR b = true ∧ toQ (mulR a b) = toQ a * toQ b := by
  cases ha : fineR a
  · unfold mulR at h; rw [ha] at h; cases h
  cases hb : fineR b
  · unfold mulR at h; rw [ha, hb] at h; cases h
  rw [mulR_fine ha hb] at h ⊢
  exact ⟨rfl, rfl, ofQ_q h⟩
theorem div_q {a b : Fr} (h : fineR (divR a b) = true) : fineR a = true ∧ fineR b = true ∧ toQ b ≠ 0 ∧ toQ (divR a b) = toQ a / toQ b := by
  cases ha : fineR a
  · unfold divR at h; rw [ha] at h; cases h
  cases hb : fineR b
  · unfold divR at h; rw [ha, hb] at h; cases h
  by_cases h0 : b.n = 0
  · unfold divR at h; rw [ha, hb, show decide (b.n ≠ 0) = false by simp [h0]] at h; cases h
  rw [divR_fine ha hb h0] at h ⊢
  exact ⟨rfl, rfl, toQ_ne hb h0, ofQ_q h⟩
/-- What a quotient is multiplied by undoes it. -/
theorem div_mul_q {a b : Fr} (h : fineR (divR a b) = true) : toQ (divR a b) * toQ b = toQ a := by
  obtain ⟨_, _, h0, e⟩ := div_q h
  rw [e, Rat.div_def, Rat.mul_assoc, Rat.inv_mul_cancel _ h0, Rat.mul_one]
theorem root_q {a : Fr} (h : fineR (rootR a) = true) : fineR a = true ∧ toQ (rootR a) * toQ (rootR a) = toQ a ∧ 0 ≤ (rootR a).n := by
  cases ha : fineR a
  · unfold rootR at h; rw [ha] at h; cases h
  unfold rootR at h ⊢
  rw [ha, if_pos rfl] at h ⊢
  cases he : eqR (mulR (tryR a) (tryR a)) a
  · rw [he, if_neg (by simp)] at h; cases h
  rw [he, if_pos rfl] at h
  rw [if_pos rfl]
  have e := eqR_iff.1 he
  have q := (mul_q (a := tryR a) (b := tryR a) (by rw [e]; exact ha)).2.2
  rw [e] at q
  exact ⟨rfl, q.symm, (flR_le (fineR_iff.1 ha).2.2.2.2.1).1⟩
/-- The sum of rational numbers. -/
def sumQ : List Rat → Rat
  | [] => 0
  | x :: xs => x + sumQ xs
theorem sumQ_append : ∀ (xs ys : List Rat), sumQ (xs ++ ys) = sumQ xs + sumQ ys
  | [], ys => by simp [sumQ, Rat.zero_add]
  | x :: xs, ys => by simp only [List.cons_append, sumQ]; rw [sumQ_append xs ys, Rat.add_assoc]
theorem fold_q : ∀ (xs : List Fr) (a : Fr), fineR (xs.foldl addR a) = true → fineR a = true ∧ (∀ x ∈ xs, fineR x = true) ∧ toQ (xs.foldl addR a) = toQ a + sumQ (xs.map toQ)
  | [], a, h => ⟨h, fun x hx => by simp at hx, by simp [sumQ, Rat.add_zero]⟩
  | y :: xs, a, h => by
    simp only [List.foldl_cons] at h ⊢
    obtain ⟨h1, h2, h3⟩ := fold_q xs (addR a y) h
    obtain ⟨g1, g2, g3⟩ := add_q h1
    refine ⟨g1, fun x hx => ?_, ?_⟩
    · rcases List.mem_cons.1 hx with rfl | hx
      · exact g2
      · exact h2 x hx
    · rw [h3, g3, List.map_cons, sumQ, Rat.add_assoc]
theorem new0_q : toQ (newR 0 1) = 0 := by
  rw [new_it (n := 0) ⟨by omega, by omega⟩]
  exact Rat.zero_divInt _
theorem sum_q {xs : List Fr} (h : fineR (sumF xs) = true) : (∀ x ∈ xs, fineR x = true) ∧ toQ (sumF xs) = sumQ (xs.map toQ) := by
  obtain ⟨_, h2, h3⟩ := fold_q xs _ h
  refine ⟨h2, ?_⟩
  rw [show sumF xs = xs.foldl addR (newR 0 1) from rfl, h3, new0_q, Rat.zero_add]
/-- The dot of rational numbers. -/
def dotQ (xs ys : List Rat) : Rat := sumQ (List.zipWith (· * ·) xs ys)
theorem muls_q : ∀ {xs ys : List Fr}, (∀ z ∈ List.zipWith mulR xs ys, fineR z = true) → (List.zipWith mulR xs ys).map toQ = List.zipWith (· * ·) (xs.map toQ) (ys.map toQ)
  | [], _, _ => by simp
  | _ :: _, [], _ => by simp
  | x :: xs, y :: ys, h => by
    simp only [List.zipWith_cons_cons, List.map_cons]
    rw [(mul_q (h (mulR x y) (by simp))).2.2, muls_q fun z hz => h z (by simp only [List.zipWith_cons_cons]; exact List.mem_cons_of_mem _ hz)]
theorem dot_q {xs ys : List Fr} (h : fineR (dotF xs ys) = true) : (∀ z ∈ List.zipWith mulR xs ys, fineR z = true) ∧ toQ (dotF xs ys) = dotQ (xs.map toQ) (ys.map toQ) := by
  obtain ⟨h1, h2⟩ := sum_q h
  refine ⟨h1, ?_⟩
  rw [show dotF xs ys = sumF (List.zipWith mulR xs ys) from rfl, h2, muls_q h1]
  rfl
theorem dotQ_snoc {xs ys : List Rat} (h : xs.length = ys.length) (x y : Rat) : dotQ (xs ++ [x]) (ys ++ [y]) = dotQ xs ys + x * y := by
  unfold dotQ
  rw [List.zipWith_append h, sumQ_append]
  simp [sumQ, Rat.add_zero]
theorem toQ_whole (n : Int) : toQ ⟨n, 1, false⟩ = (n : Rat) := by
  unfold toQ
  first | exact (Rat.intCast_eq_divInt n).symm | simp [Rat.divInt, Rat.mkRat_one] | exact (Rat.mkRat_one n)
/-- Fractions that are the same rational number are the same. -/
theorem fr_eq {a b : Fr} (ha : fineR a = true) (hb : fineR b = true) (h : toQ a = toQ b) : a = b := toQ_inj ha hb h
end Go.Proofs.YtbfdkahbnfpabaaGreat

/- The square of a root, of fractions (layer 7). Mathematics alone. -/
namespace Go.Proofs.YtbfdkahbnfpabaaGreat
open Go.RowKit
set_option linter.unusedSimpArgs false
set_option linter.unusedVariables false

theorem rootTo_stable {α : Type} {sub div : α → α → α} {root : α → α} {dot : List α → List α → α} {z : α} {p : Nat → Nat → α} {i j k : Nat} (hj : j < k) : ∀ m, k ≤ m → rootTo sub div root dot z p m i j = rootTo sub div root dot z p k i j
  | 0, h => by omega
  | m + 1, h => by
    by_cases e : k = m + 1
    · rw [e]
    · rw [← rootTo_stable hj m (by omega)]
      show rootStep _ _ _ _ _ _ m i j = _
      unfold rootStep
      rw [if_neg (by omega)]
theorem rootTo_up {α : Type} {sub div : α → α → α} {root : α → α} {dot : List α → List α → α} {z : α} {p : Nat → Nat → α} {i j : Nat} (h : i < j) : ∀ m, rootTo sub div root dot z p m i j = z
  | 0 => rfl
  | m + 1 => by
    show rootStep _ _ _ _ _ _ m i j = _
    unfold rootStep
    rw [if_neg (by omega)]
    exact rootTo_up h m
theorem rootTo_row {α : Type} {sub div : α → α → α} {root : α → α} {dot : List α → List α → α} {z : α} {p : Nat → Nat → α} {i k n : Nat} (h : k ≤ n) : rowM k (rootTo sub div root dot z p k) i = rowM k (rootTo sub div root dot z p n) i :=
  rowM_congr fun j hj => (rootTo_stable hj n h).symm
/-- What stands in a root, by itself. -/
theorem rootTo_eq {α : Type} {sub div : α → α → α} {root : α → α} {dot : List α → List α → α} {z : α} {p : Nat → Nat → α} {n i k : Nat} (hk : k < n) (hi : k ≤ i) {s : Nat → Nat → α} (hs : s = rootTo sub div root dot z p n) :
    s i k = if i = k then root (sub (p k k) (dot (rowM k s k) (rowM k s k))) else div (sub (p i k) (dot (rowM k s i) (rowM k s k))) (s k k) := by
  have e : ∀ i, k ≤ i → s i k = if i = k then root (sub (p k k) (dot (rowM k s k) (rowM k s k))) else div (sub (p i k) (dot (rowM k s i) (rowM k s k))) (root (sub (p k k) (dot (rowM k s k) (rowM k s k)))) := fun i hi => by
    rw [show s i k = rootTo sub div root dot z p (k + 1) i k by rw [hs]; exact rootTo_stable (by omega) n (by omega)]
    show rootStep _ _ _ _ _ _ k i k = _
    unfold rootStep
    rw [if_pos ⟨rfl, hi⟩, rootTo_row (i := i) (show k ≤ n by omega), rootTo_row (i := k) (show k ≤ n by omega), ← hs]
  rw [e i hi]
  by_cases h : i = k
  · rw [if_pos h, if_pos h]
  · rw [if_neg h, if_neg h, e k (Nat.le_refl _), if_pos rfl]
/-- A dot whose second row ends at k. -/
theorem dotQ_low {s : Nat → Nat → Rat} {i k : Nat} (h : ∀ j, k < j → s k j = 0) : ∀ n, k < n → dotQ (rowM n s i) (rowM n s k) = dotQ (rowM k s i) (rowM k s k) + s i k * s k k
  | 0, hk => by omega
  | n + 1, hk => by
    rw [rowM_succ, rowM_succ, dotQ_snoc (by rw [rowM_len, rowM_len])]
    by_cases e : k = n
    · subst e; rfl
    · rw [dotQ_low h n (by omega), h n (by omega), Rat.mul_zero, Rat.add_zero]
theorem row_q (k : Nat) (s : Nat → Nat → Fr) (i : Nat) : (rowM k s i).map toQ = rowM k (fun i j => toQ (s i j)) i := by unfold rowM; rw [List.map_map]; rfl
theorem zip_mem {n : Nat} {s : Nat → Nat → Fr} {i k j : Nat} (hj : j < n) : mulR (s i j) (s k j) ∈ List.zipWith mulR (rowM n s i) (rowM n s k) := by
  refine List.mem_of_getElem? (i := j) ?_
  rw [List.getElem?_zipWith, rowM_get s i hj, rowM_get s k hj]
/-- The square of a root, where it may be one, is what it is the root of. -/
theorem root_square {n : Nat} {p s : Nat → Nat → Fr} {z : Fr} (hz : toQ z = 0) (hs : s = rootTo subR divR rootR dotF z p n) {i k : Nat} (hk : k < n) (hi : k ≤ i) (hf : fineR (dotF (rowM n s i) (rowM n s k)) = true) :
    dotF (rowM n s i) (rowM n s k) = p i k := by
  obtain ⟨hall, hq⟩ := dot_q hf
  have hup : ∀ j, k < j → toQ (s k j) = 0 := fun j hj => by rw [hs, rootTo_up hj n]; exact hz
  rw [row_q, row_q, dotQ_low (s := fun i j => toQ (s i j)) hup n hk] at hq
  have hm := mul_q (hall _ (zip_mem (i := i) (k := k) hk))
  have e := rootTo_eq hk hi hs
  have ek := rootTo_eq hk (Nat.le_refl k) hs
  rw [if_pos rfl] at ek
  by_cases h : i = k
  · subst h
    have hr := root_q (a := subR (p i i) (dotF (rowM i s i) (rowM i s i))) (by rw [← ek]; exact hm.1)
    rw [← ek] at hr
    obtain ⟨f1, f2, f3⟩ := sub_q hr.1
    refine fr_eq hf f1 ?_
    rw [hq, hr.2.1, f3, (dot_q f2).2, row_q, Rat.add_comm, Rat.sub_eq_add_neg, Rat.add_assoc, Rat.neg_add_cancel, Rat.add_zero]
  · rw [if_neg h] at e
    have hdv : fineR (divR (subR (p i k) (dotF (rowM k s i) (rowM k s k))) (s k k)) = true := by rw [← e]; exact hm.1
    have hmq := div_mul_q hdv
    rw [← e] at hmq
    obtain ⟨f1, f2, f3⟩ := sub_q (div_q hdv).1
    refine fr_eq hf f1 ?_
    rw [hq, hmq, f3, (dot_q f2).2, row_q, row_q, Rat.add_comm, Rat.sub_eq_add_neg, Rat.add_assoc, Rat.neg_add_cancel, Rat.add_zero]
end Go.Proofs.YtbfdkahbnfpabaaGreat
