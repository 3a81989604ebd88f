/- Contract of the document's Mul (layer 6). -/
import Derived.Test.YtokbmbgiimbkpaaFrN
import Derived.Test.YtokbmbgiimbkpaaGF
import Derived.Test.YtokbmbgiimbkpaaGR
import Derived.Test.YtokbmbgiimbkpaaTimes
import Derived.Test.YtokbmbgiimbkpaaWlr
import Derived.Test.YtokbmbgiimbkpaaHF
/- Whole numbers as fractions: their sums, products and dots (layer 5's laws). Mathematics alone. -/
namespace Go.Proofs.Ytokbmbgiimbkpaa
open Go.RowKit
set_option linter.unusedSimpArgs false
set_option linter.unusedVariables false

/-- A whole number. -/
def itF (n : Int) : Fr := ⟨n, 1, false⟩
/-- It may be one. -/
def Wh (n : Int) : Prop := -1073741824 ≤ n ∧ n ≤ 1073741824
theorem fine_it {n : Int} (h : Wh n) : fineR (itF n) = true := fine_mk (by decide) (by decide) h.1 h.2 (by simp)
theorem low_it {n : Int} (h : Wh n) : lowR n 1 = itF n := by
  rw [lowR_pos n 1 (by decide) 1 (by simp)]
  have h1 : smB n = true := smB_iff.2 h
  have e1 : n.tdiv 1 = n := Int.tdiv_one n
  rw [e1, h1]
  rfl
theorem new_it {n : Int} (h : Wh n) : newR n 1 = itF n := by
  have h1 : gvB n = true := gvB_iff.2 (by have := h; unfold Wh at this; omega)
  unfold newR
  rw [h1, low_it h]
  rfl
theorem whole_it {n : Int} (h : Wh n) : wholeF n = itF n := new_it h
theorem add_it {a b : Int} (ha : Wh a) (hb : Wh b) (h : Wh (a + b)) : addR (itF a) (itF b) = itF (a + b) := by
  rw [addR_fine (fine_it ha) (fine_it hb), ← low_add (fine_it ha) (fine_it hb), ← low_it h]
  simp [itF]
theorem sub_it {a b : Int} (ha : Wh a) (hb : Wh b) (h : Wh (a - b)) : subR (itF a) (itF b) = itF (a - b) := by
  rw [subR_fine (fine_it ha) (fine_it hb), ← low_sub (fine_it ha) (fine_it hb), ← low_it h]
  simp [itF]
theorem mul_it {a b : Int} (ha : Wh a) (hb : Wh b) (h : Wh (a * b)) : mulR (itF a) (itF b) = itF (a * b) := by
  rw [mulR_fine (fine_it ha) (fine_it hb), ← low_mul (fine_it ha) (fine_it hb), ← low_it h]
  simp [itF]
/-- All are so small. -/
def Sml (B : Int) (ns : List Int) : Prop := ∀ x ∈ ns, -B ≤ x ∧ x ≤ B
theorem Sml.tail {B n : Int} {ns : List Int} (h : Sml B (n :: ns)) : Sml B ns := fun x hx => h x (List.mem_cons_of_mem _ hx)
theorem Sml.head {B n : Int} {ns : List Int} (h : Sml B (n :: ns)) : -B ≤ n ∧ n ≤ B := h n (List.mem_cons_self)
theorem Sml.take {B : Int} {ns : List Int} (h : Sml B ns) (k : Nat) : Sml B (ns.take k) := fun x hx => h x (List.mem_of_mem_take hx)
theorem Sml.drop {B : Int} {ns : List Int} (h : Sml B ns) (k : Nat) : Sml B (ns.drop k) := fun x hx => h x (List.mem_of_mem_drop hx)
theorem Sml.sum {B : Int} : ∀ {ns : List Int}, Sml B ns → -(B * ns.length) ≤ ns.sum ∧ ns.sum ≤ B * ns.length
  | [], _ => by simp
  | n :: ns, h => by
    have h1 := h.head
    have h2 := Sml.sum h.tail
    simp only [List.sum_cons, List.length_cons, Int.natCast_add, Int.mul_add]
    omega
theorem fold_it {B : Int} : ∀ (ns : List Int) (s : Int), Sml B ns → 0 ≤ B → -1073741824 + B * ns.length ≤ s → s ≤ 1073741824 - B * ns.length → (ns.map itF).foldl addR (itF s) = itF (s + ns.sum)
  | [], s, _, _, _, _ => by simp
  | n :: ns, s, h, hB, h1, h2 => by
    have hn := h.head
    simp only [List.length_cons, Int.natCast_add, Int.mul_add] at h1 h2
    have hp : 0 ≤ B * ns.length := Int.mul_nonneg hB (by omega)
    rw [List.map_cons, List.foldl_cons, add_it ⟨by omega, by omega⟩ ⟨by omega, by omega⟩ ⟨by omega, by omega⟩, fold_it ns (s + n) h.tail hB (by omega) (by omega), List.sum_cons]
    congr 1
    omega
theorem sum_it {B : Int} (ns : List Int) (h : Sml B ns) (hB : 0 ≤ B) (hb : B * ns.length ≤ 1073741824) : sumF (ns.map itF) = itF ns.sum := by
  unfold sumF
  rw [new_it (n := 0) ⟨by omega, by omega⟩, fold_it ns 0 h hB (by omega) (by omega)]
  simp
theorem wholes_it {B : Int} (ns : List Int) (h : Sml B ns) (hb : B ≤ 1073741824) : ns.map wholeF = ns.map itF :=
  List.map_congr_left fun x hx => whole_it (by have := h x hx; exact ⟨by omega, by omega⟩)
/-- The sum of all products. -/
def dotI (xs ys : List Int) : Int := (List.zipWith (· * ·) xs ys).sum
theorem mul_bound {a b A B : Int} (ha : -A ≤ a ∧ a ≤ A) (hb : -B ≤ b ∧ b ≤ B) : -(A * B) ≤ a * b ∧ a * b ≤ A * B := abs_mul_le ha.1 ha.2 hb.1 hb.2
theorem muls_sml {A B : Int} : ∀ {xs ys : List Int}, Sml A xs → Sml B ys → Sml (A * B) (List.zipWith (· * ·) xs ys)
  | [], _, _, _ => by intro x hx; simp at hx
  | _ :: _, [], _, _ => by intro x hx; simp at hx
  | x :: xs, y :: ys, h, k => by
    intro z hz
    rw [List.zipWith_cons_cons] at hz
    rcases List.mem_cons.1 hz with rfl | hz
    · exact mul_bound h.head k.head
    · exact muls_sml h.tail k.tail z hz
theorem muls_it {A B : Int} (hA : A ≤ 1073741824) (hB : B ≤ 1073741824) (hAB : A * B ≤ 1073741824) : ∀ (xs ys : List Int), Sml A xs → Sml B ys → List.zipWith mulR (xs.map itF) (ys.map itF) = (List.zipWith (· * ·) xs ys).map itF
  | [], _, _, _ => by simp
  | _ :: _, [], _, _ => by simp
  | x :: xs, y :: ys, h, k => by
    have h1 := h.head
    have h2 := k.head
    have h3 := mul_bound h1 h2
    rw [List.map_cons, List.map_cons, List.zipWith_cons_cons, List.zipWith_cons_cons, List.map_cons, mul_it ⟨by omega, by omega⟩ ⟨by omega, by omega⟩ ⟨by omega, by omega⟩, muls_it hA hB hAB xs ys h.tail k.tail]
theorem adds_it {A B : Int} (hA : A ≤ 1073741824) (hB : B ≤ 1073741824) (hAB : A + B ≤ 1073741824) : ∀ (xs ys : List Int), Sml A xs → Sml B ys → List.zipWith addR (xs.map itF) (ys.map itF) = (List.zipWith (· + ·) xs ys).map itF
  | [], _, _, _ => by simp
  | _ :: _, [], _, _ => by simp
  | x :: xs, y :: ys, h, k => by
    have h1 := h.head
    have h2 := k.head
    rw [List.map_cons, List.map_cons, List.zipWith_cons_cons, List.zipWith_cons_cons, List.map_cons, add_it ⟨by omega, by omega⟩ ⟨by omega, by omega⟩ ⟨by omega, by omega⟩, adds_it hA hB hAB xs ys h.tail k.tail]
theorem subs_it {A B : Int} (hA : A ≤ 1073741824) (hB : B ≤ 1073741824) (hAB : A + B ≤ 1073741824) : ∀ (xs ys : List Int), Sml A xs → Sml B ys → List.zipWith subR (xs.map itF) (ys.map itF) = (List.zipWith (· - ·) xs ys).map itF
  | [], _, _, _ => by simp
  | _ :: _, [], _, _ => by simp
  | x :: xs, y :: ys, h, k => by
    have h1 := h.head
    have h2 := k.head
    rw [List.map_cons, List.map_cons, List.zipWith_cons_cons, List.zipWith_cons_cons, List.map_cons, sub_it ⟨by omega, by omega⟩ ⟨by omega, by omega⟩ ⟨by omega, by omega⟩, subs_it hA hB hAB xs ys h.tail k.tail]
theorem adds_sml {A B : Int} : ∀ {xs ys : List Int}, Sml A xs → Sml B ys → Sml (A + B) (List.zipWith (· + ·) xs ys)
  | [], _, _, _ => by intro x hx; simp at hx
  | _ :: _, [], _, _ => by intro x hx; simp at hx
  | x :: xs, y :: ys, h, k => by
    intro z hz
    rw [List.zipWith_cons_cons] at hz
    have h1 := h.head
    have h2 := k.head
    rcases List.mem_cons.1 hz with rfl | hz
    · omega
    · exact adds_sml h.tail k.tail z hz
theorem subs_sml {A B : Int} : ∀ {xs ys : List Int}, Sml A xs → Sml B ys → Sml (A + B) (List.zipWith (· - ·) xs ys)
  | [], _, _, _ => by intro x hx; simp at hx
  | _ :: _, [], _, _ => by intro x hx; simp at hx
  | x :: xs, y :: ys, h, k => by
    intro z hz
    rw [List.zipWith_cons_cons] at hz
    have h1 := h.head
    have h2 := k.head
    rcases List.mem_cons.1 hz with rfl | hz
    · omega
    · exact subs_sml h.tail k.tail z hz
theorem scale_it {A B b : Int} (hA : A ≤ 1073741824) (hB : B ≤ 1073741824) (hAB : A * B ≤ 1073741824) (hb : -B ≤ b ∧ b ≤ B) (xs : List Int) (h : Sml A xs) : (xs.map itF).map (fun x => mulR x (itF b)) = (xs.map (· * b)).map itF := by
  rw [List.map_map, List.map_map]
  refine List.map_congr_left fun x hx => ?_
  have h1 := h x hx
  have h3 := mul_bound h1 hb
  exact mul_it ⟨by omega, by omega⟩ ⟨by omega, by omega⟩ ⟨by omega, by omega⟩
theorem scale_sml {A B b : Int} (hb : -B ≤ b ∧ b ≤ B) {xs : List Int} (h : Sml A xs) : Sml (A * B) (xs.map (· * b)) := by
  intro z hz
  obtain ⟨x, hx, rfl⟩ := List.mem_map.1 hz
  exact mul_bound (h x hx) hb
theorem dot_it {A B : Int} {xs ys : List Int} (h : Sml A xs) (k : Sml B ys) (hA : 0 ≤ A ∧ A ≤ 100000) (hB : 0 ≤ B ∧ B ≤ 2000) (hl : xs.length ≤ 20) (hAB : A * B ≤ 53687091) : dotF (xs.map itF) (ys.map itF) = itF (dotI xs ys) := by
  unfold dotF dotI
  have hp : 0 ≤ A * B := Int.mul_nonneg hA.1 hB.1
  rw [muls_it (by omega) (by omega) (by omega) xs ys h k]
  refine sum_it (B := A * B) _ (muls_sml h k) hp ?_
  have hln : (List.zipWith (· * ·) xs ys).length ≤ 20 := by simp; omega
  have := Int.mul_le_mul_of_nonneg_left (show ((List.zipWith (· * ·) xs ys).length : Int) ≤ 20 by omega) hp
  omega
theorem dotI_comm : ∀ (xs ys : List Int), dotI xs ys = dotI ys xs := fun xs ys => by
  unfold dotI
  rw [List.zipWith_comm]
  simp only [Int.mul_comm]
theorem dotI_add : ∀ (xs ys zs : List Int), xs.length = ys.length → dotI (List.zipWith (· + ·) xs ys) zs = dotI xs zs + dotI ys zs
  | [], [], _, _ => by simp [dotI]
  | x :: xs, y :: ys, [], _ => by simp [dotI]
  | x :: xs, y :: ys, z :: zs, h => by
    have ih := dotI_add xs ys zs (by simpa using h)
    unfold dotI at ih ⊢
    simp only [List.zipWith_cons_cons, List.sum_cons, ih, Int.add_mul]
    omega
  | [], _ :: _, _, h => by simp at h
  | _ :: _, [], _, h => by simp at h
theorem dotI_sub : ∀ (xs ys zs : List Int), xs.length = ys.length → dotI (List.zipWith (· - ·) xs ys) zs = dotI xs zs - dotI ys zs
  | [], [], _, _ => by simp [dotI]
  | x :: xs, y :: ys, [], _ => by simp [dotI]
  | x :: xs, y :: ys, z :: zs, h => by
    have ih := dotI_sub xs ys zs (by simpa using h)
    unfold dotI at ih ⊢
    simp only [List.zipWith_cons_cons, List.sum_cons, ih, Int.sub_mul]
    omega
  | [], _ :: _, _, h => by simp at h
  | _ :: _, [], _, h => by simp at h
theorem dotI_scale (b : Int) : ∀ (xs ys : List Int), dotI (xs.map (· * b)) ys = dotI xs ys * b
  | [], _ => by simp [dotI]
  | x :: xs, [] => by simp [dotI]
  | x :: xs, y :: ys => by
    have ih := dotI_scale b xs ys
    unfold dotI at ih ⊢
    simp only [List.map_cons, List.zipWith_cons_cons, List.sum_cons, ih, Int.add_mul]
    congr 1
    rw [Int.mul_assoc, Int.mul_comm b y, ← Int.mul_assoc]
theorem dotI_bound {A B : Int} {xs ys : List Int} (h : Sml A xs) (k : Sml B ys) (hA : 0 ≤ A) (hB : 0 ≤ B) (hl : xs.length ≤ 20) : -(A * B * 20) ≤ dotI xs ys ∧ dotI xs ys ≤ A * B * 20 := by
  have hp : 0 ≤ A * B := Int.mul_nonneg hA hB
  have h1 := (muls_sml h k).sum
  have hln : (List.zipWith (· * ·) xs ys).length ≤ 20 := by simp; omega
  have := Int.mul_le_mul_of_nonneg_left (show ((List.zipWith (· * ·) xs ys).length : Int) ≤ 20 by omega) hp
  unfold dotI
  omega
end Go.Proofs.Ytokbmbgiimbkpaa

/- What layer 5's laws ask with: Few, the document's Dot, awake. -/
namespace Go.Proofs.Ytokbmbgiimbkpaa
open Go.RowKit
set_option linter.unusedSimpArgs false
set_option linter.unusedVariables false

/-- A whole number's cells. -/
abbrev cI : Int → List Value := fun n => [.int .i64 n]
theorem cellI {w wr : World} {b o : Nat} {ns : List Int} (HX : ∀ j x, ns[j]? = some x → ∀ k u, (cI x)[k]? = some u → w.cell? ⟨b, o + j * 1 + k, none⟩ = some u) {k : Nat} {x : Int} (hx : ns[k]? = some x) : w.cell? ⟨b, o + k, none⟩ = some (.int .i64 x) := by
  have := HX k x hx 0 _ rfl
  simpa using this
/-- What Few tells. -/
def FewP (ns : List Int) (w : World) (e : Ending) (w' : World) : Prop := ∃ b, e = .returned (.bool b) ∧ (b = true → ns.length ≤ 20 ∧ Sml 1000 ns) ∧ w' = w
theorem fewP {ns : List Int} {w : World} (b : Bool) (h : b = true → ns.length ≤ 20 ∧ Sml 1000 ns) : FewP ns w (.returned (.bool b)) w := ⟨b, rfl, h, rfl⟩
/-- The world behind awake's two rows of whole numbers. -/
theorem rq_new2 (w : World) (x y : Int) (t : TypeId) : Rq 1 cI (w.alloc (.cells #[.int .i64 x, .int .i64 y] t)) (.slice (some ⟨w.heap.size, 0, none⟩) 2 2) [x, y] := by
  refine .inr ⟨w.heap.size, 0, 2, rfl, Nat.le_refl _, by simp, fun j z hj k u hu => ?_⟩
  rcases k with _ | k
  · simp at hu
    subst hu
    rcases j with _ | _ | j
    · simp at hj; subst hj; simp [go_sem]
    · simp at hj; subst hj; simp [go_sem]
    · simp at hj
  · simp at hu
theorem dotI_snoc (xs ys : List Int) (k : Nat) (x y : Int) (hx : xs[k]? = some x) (hy : ys[k]? = some y) : dotI (xs.take (k + 1)) (ys.take (k + 1)) = dotI (xs.take k) (ys.take k) + x * y := by
  have h1 := (List.getElem?_eq_some_iff.1 hx).1
  have h2 := (List.getElem?_eq_some_iff.1 hy).1
  unfold dotI
  rw [List.take_add_one, List.take_add_one, hx, hy, List.zipWith_append (by simp; omega)]
  simp
theorem dotI_take (xs ys : List Int) (k : Nat) (h : k = min xs.length ys.length) : dotI (xs.take k) (ys.take k) = dotI xs ys := by
  unfold dotI
  congr 1
  subst h
  rw [List.zipWith_eq_zipWith_take_min (l₁ := xs)]
theorem sum_few {ns : List Int} (h : Sml 1000 ns) (hl : ns.length ≤ 20) : sumF (ns.map wholeF) = itF ns.sum := by
  rw [wholes_it ns h (by omega)]
  exact sum_it ns h (by omega) (by omega)
end Go.Proofs.Ytokbmbgiimbkpaa

/- Contracts in the words of layer 5's laws: few whole numbers, as fractions; awake. -/
namespace Go.Proofs.Ytokbmbgiimbkpaa
open Go.RowKit
set_option linter.unusedSimpArgs false
set_option linter.unusedVariables false

theorem eqR_self (r : Fr) : eqR r r = true := eqR_iff.2 rfl
theorem eql_selfV (r : Fr) (w : World) : (binOp .eql 31 (frV r) (frV r)).run Try.prog w = .ok (.bool true) w := by rw [eql_fr, eqR_self]
theorem new_few {n : Int} (h : Wh n) (w : World) : Calls Try.prog 19 #[.int .i64 n, .int .i64 1] w fun e w' => e = .returned (frV (itF n)) ∧ Bl w w' := by
  rw [← new_it h]
  exact new_any n 1 w
/-- A row of whole numbers. -/
abbrev RwI (w : World) (v : Value) (ns : List Int) : Prop := Rw 3 cellsF w v (ns.map itF)
theorem rw_slice {w : World} {v : Value} {ns : List Int} (h : RwI w v ns) : ∃ p c, v = .slice p ns.length c ∧ ns.length ≤ c := by
  obtain ⟨p, c, e, h1, _⟩ := h.cut
  rw [List.length_map] at e h1
  exact ⟨p, c, e, h1⟩
theorem whole_few (v : Value) (ns : List Int) (w : World) (h : Rq 1 cI w v ns) (hs : Sml 1000 ns) (hl : ns.length ≤ 20) :
    Calls Try.prog 35 #[v] w fun e w' => ∃ p c, e = .returned (.slice p ns.length c) ∧ (RwI w' (.slice p ns.length c) ns ∧ ns.length ≤ c) ∧ Bl w w' := by
  refine (vWholeF v ns w h (by omega)).mono ?_
  rintro e w' ⟨u, rfl, hr, hb⟩
  rw [wholes_it ns hs (by omega)] at hr
  obtain ⟨p, c, rfl, hc⟩ := rw_slice hr
  exact ⟨p, c, rfl, ⟨hr, hc⟩, hb⟩
theorem add_few (va vb : Value) (xs ys : List Int) (w : World) (ha : RwI w va xs) (hb : RwI w vb ys) (hx : Sml 1000 xs) (hy : Sml 1000 ys) (hl : xs.length ≤ 20) (hm : ys.length ≤ 20) :
    Calls Try.prog 43 #[va, vb] w fun e w' => ∃ p c, e = .returned (.slice p (min xs.length ys.length) c) ∧ (RwI w' (.slice p (min xs.length ys.length) c) (List.zipWith (· + ·) xs ys) ∧ min xs.length ys.length ≤ c) ∧ Bl w w' := by
  refine (vAddF va vb _ _ w ha.q hb.q (by simp; omega) (by simp; omega)).mono ?_
  rintro e w' ⟨u, rfl, hr, hb⟩
  rw [adds_it (A := 1000) (B := 1000) (by omega) (by omega) (by omega) xs ys hx hy] at hr
  obtain ⟨p, c, rfl, hc⟩ := rw_slice hr
  rw [List.length_zipWith] at hr hc ⊢
  exact ⟨p, c, rfl, ⟨hr, hc⟩, hb⟩
theorem sub_few (va vb : Value) (xs ys : List Int) (w : World) (ha : RwI w va xs) (hb : RwI w vb ys) (hx : Sml 1000 xs) (hy : Sml 1000 ys) (hl : xs.length ≤ 20) (hm : ys.length ≤ 20) :
    Calls Try.prog 44 #[va, vb] w fun e w' => ∃ p c, e = .returned (.slice p (min xs.length ys.length) c) ∧ (RwI w' (.slice p (min xs.length ys.length) c) (List.zipWith (· - ·) xs ys) ∧ min xs.length ys.length ≤ c) ∧ Bl w w' := by
  refine (vSubF va vb _ _ w ha.q hb.q (by simp; omega) (by simp; omega)).mono ?_
  rintro e w' ⟨u, rfl, hr, hb⟩
  rw [subs_it (A := 1000) (B := 1000) (by omega) (by omega) (by omega) xs ys hx hy] at hr
  obtain ⟨p, c, rfl, hc⟩ := rw_slice hr
  rw [List.length_zipWith] at hr hc ⊢
  exact ⟨p, c, rfl, ⟨hr, hc⟩, hb⟩
theorem dot_few {A B : Int} (va vb : Value) (xs ys : List Int) (w : World) (ha : RwI w va xs) (hb : RwI w vb ys) (hx : Sml A xs) (hy : Sml B ys) (hA : 0 ≤ A ∧ A ≤ 100000) (hB : 0 ≤ B ∧ B ≤ 2000) (hAB : A * B ≤ 53687091) (hl : xs.length ≤ 20) (hm : ys.length ≤ 20) :
    Calls Try.prog 41 #[va, vb] w fun e w' => e = .returned (frV (itF (dotI xs ys))) ∧ Bl w w' := by
  rw [← dot_it hx hy hA hB hl hAB]
  exact vDotF va vb _ _ w ha.q hb.q (by simp; omega) (by simp; omega)
theorem sum_few' (v : Value) (xs : List Int) (w : World) (h : RwI w v xs) (hx : Sml 1000 xs) (hl : xs.length ≤ 20) :
    Calls Try.prog 60 #[v] w fun e w' => e = .returned (frV (itF xs.sum)) ∧ Bl w w' := by
  rw [← sum_it (B := 1000) xs hx (by omega) (by omega)]
  exact vsumF v _ w h.q (by simp; omega)
theorem sml12 : Sml 1000 [1, 2] := by intro x hx; simp at hx; omega
theorem sml34 : Sml 1000 [3, 4] := by intro x hx; simp at hx; omega
end Go.Proofs.Ytokbmbgiimbkpaa

/- Rows of whole numbers as they lie in memory (layer 5). -/
namespace Go.Proofs.Ytokbmbgiimbkpaa
open Go.RowKit
set_option linter.unusedSimpArgs false
set_option linter.unusedVariables false

theorem Try.info_I : (Try.prog.info? 3).map (fun i => (i.zero, i.size, i.bytes)) = some (some (.int .i64 0), 1, 8) := by kernel_rfl
/-- A number's cells. -/
def cellsI (x : Int) : List Value := [.int .i64 x]
theorem cellsI_len (x : Int) : (cellsI x).length = 1 := rfl
theorem oneI_cells (x : Int) : ∀ u ∈ cellsI x, u.oneCell' = true := by
  intro u hu
  unfold cellsI at hu
  simp only [List.mem_cons, List.not_mem_nil, or_false] at hu
  rcases hu with rfl
  rfl
end Go.Proofs.Ytokbmbgiimbkpaa

/- What layer 6's laws ask with: Few, the document's Right and Mul. -/
namespace Go.Proofs.Ytokbmbgiimbkpaa
open Go.RowKit
set_option linter.unusedSimpArgs false
set_option linter.unusedVariables false

/-- What Few tells. -/
def FewQ (ns : List Int) (w : World) (e : Ending) (w' : World) : Prop := ∃ b, e = .returned (.bool b) ∧ (b = true → ns.length ≤ 256 ∧ Sml 100 ns) ∧ w' = w
theorem fewQ {ns : List Int} {w : World} (b : Bool) (h : b = true → ns.length ≤ 256 ∧ Sml 100 ns) : FewQ ns w (.returned (.bool b)) w := ⟨b, rfl, h, rfl⟩
set_option maxHeartbeats 1000000 in
theorem few6_any (v : Value) (ns : List Int) (w : World) (h : Rq 1 cI w v ns) :
    Calls Try.prog 10 #[v] w (FewQ ns w) := by
  rcases h with ⟨p, cap, rfl, rfl, hpn⟩ | ⟨b, o, cap, rfl, hc, hb, hx⟩
  · go_enter Try.func10, Try.ntmps10
    go_wp2_with fail
    go_loopw [3] (fun i wr => i = .int .i64 0 ∧ wr = w) (fun _ _ => 0)
    case atStart => exact ⟨rfl, rfl⟩
    case round =>
      obtain ⟨rfl, rfl⟩ := hrel
      go_wp2
      go_ret
      exact fewQ _ (fun _ => ⟨by simp, fun x hx => by simp at hx⟩)
  · have HX := hideP hx
    clear hx
    go_enter Try.func10, Try.ntmps10
    go_wp2_with fail
    go_loopw [3] (fun i wr => ∃ k : Nat, i = .int .i64 k ∧ k ≤ ns.length ∧ k ≤ 257 ∧ Sml 100 (ns.take k) ∧ wr = w) (fun i _ => 257 - (intOf i).toNat)
    case atStart => exact ⟨0, rfl, Nat.zero_le _, Nat.zero_le _, fun x hx => by simp at hx, rfl⟩
    case round =>
      obtain ⟨k, rfl, hk, hk2, hS, rfl⟩ := hrel
      have HS := hideP hS
      clear hS
      by_cases hlt : k < ns.length ∧ k ≤ 256
      · obtain ⟨hlt, hlt2⟩ := hlt
        obtain ⟨x, hx⟩ : ∃ x, ns[k]? = some x := ⟨_, List.getElem?_eq_getElem hlt⟩
        have cx := cellI HX.out hx (wr := wr)
        have HT := hideP (show ns.take (k + 1) = ns.take k ++ [x] by rw [List.take_add_one, hx]; rfl)
        by_cases h1 : x < -100
        · go_wp2
          go_ret
          exact fewQ _ nofun
        · by_cases h2 : 100 < x
          · go_wp2
            go_ret
            exact fewQ _ nofun
          · go_wp2
            go_roundw
            case rel =>
              refine ⟨k + 1, by simp, hlt, by omega, ?_, trivial⟩
              rw [HT.out]
              intro y hy
              rcases List.mem_append.1 hy with hy | hy
              · exact HS.out y hy
              · simp at hy; omega
            case measure => simp [intOf]; omega
      · by_cases hl : ns.length ≤ 256
        · have hk' : k = ns.length := by omega
          subst hk'
          go_wp2
          go_ret
          exact fewQ _ (fun _ => ⟨hl, by have := HS.out; rwa [List.take_length] at this⟩)
        · have hk' : 256 < k := by omega
          have hl' : 256 < ns.length := by omega
          go_wp2
          all_goals
            go_ret
            exact fewQ _ (fun h => by simp at h; omega)
theorem ref6Right_any (r c n : Int) (w : World) : Calls Try.prog 13 #[.int .i64 r, .int .i64 c, .int .i64 n] w fun e w' => e = .returned (.bool (fitB r c n)) ∧ w' = w := by
  by_cases h : 1 ≤ r ∧ r ≤ 16
  · by_cases h2 : 1 ≤ c ∧ c ≤ 16
    · have hm := mul_16 h.1 h.2 h2.1 h2.2
      have hf : fitB r c n = decide (n = r * c) := by simp [fitB, h, h2]
      rw [hf]
      obtain ⟨a1, a2⟩ := h
      obtain ⟨a3, a4⟩ := h2
      generalize hq : r * c = q at *
      clear hf
      go_enter Try.func13, Try.ntmps13
      go_wp2
      go_ret
      exact ⟨by rw [show (n == q) = decide (n = q) from rfl]; rfl, rfl⟩
    · have hf : fitB r c n = false := by simp [fitB]; omega
      rw [hf]
      obtain ⟨a1, a2⟩ := h
      by_cases h3 : c < 1
      · go_enter Try.func13, Try.ntmps13
        go_wp2
        go_ret
        exact ⟨rfl, rfl⟩
      · have h4 : 16 < c := by omega
        go_enter Try.func13, Try.ntmps13
        go_wp2
        go_ret
        exact ⟨rfl, rfl⟩
  · have hf : fitB r c n = false := by simp [fitB]; omega
    rw [hf]
    by_cases h3 : r < 1
    · go_enter Try.func13, Try.ntmps13
      go_wp2
      go_ret
      exact ⟨rfl, rfl⟩
    · have h4 : 16 < r := by omega
      go_enter Try.func13, Try.ntmps13
      go_wp2
      go_ret
      exact ⟨rfl, rfl⟩
/-- A product's number, of whole numbers. -/
def mulI (M : Nat) (a b : Nat → Nat → Int) (i k : Nat) : Int := dotI (rowM M a i) (colM M b k)
theorem mulI_succ (M : Nat) (a b : Nat → Nat → Int) (i k : Nat) : mulI (M + 1) a b i k = mulI M a b i k + a i M * b M k := by
  unfold mulI dotI
  rw [rowM_succ, colM_succ, List.zipWith_append (by rw [rowM_len, colM_len])]
  simp
theorem mulI_zero (a b : Nat → Nat → Int) (i k : Nat) : mulI 0 a b i k = 0 := rfl
theorem mulI_bound {A B : Int} {R M D : Nat} {a b : Nat → Nat → Int} (hA : 0 ≤ A) (hB : 0 ≤ B) (ha : ∀ i k, i < R → k < M → -A ≤ a i k ∧ a i k ≤ A) (hb : ∀ i k, i < M → k < D → -B ≤ b i k ∧ b i k ≤ B) {i k : Nat} (hi : i < R) (hk : k < D) :
    ∀ m, m ≤ M → -(A * B * m) ≤ mulI m a b i k ∧ mulI m a b i k ≤ A * B * m := by
  intro m
  induction m with
  | zero => intro _; simp [mulI_zero]
  | succ m ih =>
    intro hm
    have h1 := ih (by omega)
    have h2 := mul_bound (ha i m hi (by omega)) (hb m k (by omega) hk)
    rw [mulI_succ]
    have : A * B * ((m + 1 : Nat) : Int) = A * B * (m : Int) + A * B := by rw [Int.natCast_add, Int.mul_add]; simp
    omega
/-- A row of whole numbers as a matrix. -/
def ofL (M : Nat) (ns : List Int) (i k : Nat) : Int := ns.getD (i * M + k) 0
theorem ofL_get {R M : Nat} {ns : List Int} (h : ns.length = R * M) {i k : Nat} (hi : i < R) (hk : k < M) : ns[i * M + k]? = some (ofL M ns i k) := by
  have := mk_idx hi hk
  simp [ofL, List.getElem?_eq_getElem (show i * M + k < ns.length by omega)]
theorem ofL_mk {R M : Nat} {ns : List Int} (h : ns.length = R * M) : ns = mk R M (ofL M ns) := mk_of 0 ns h
theorem ofL_sml {A : Int} {R M : Nat} {ns : List Int} (h : ns.length = R * M) (hs : Sml A ns) : ∀ i k, i < R → k < M → -A ≤ ofL M ns i k ∧ ofL M ns i k ≤ A := fun i k hi hk => hs _ (List.mem_of_getElem? (ofL_get h hi hk))
end Go.Proofs.Ytokbmbgiimbkpaa

/- Contracts of layer 6's Same, Alike. -/
namespace Go.Proofs.Ytokbmbgiimbkpaa
open Go.RowKit
set_option linter.unusedSimpArgs false
set_option linter.unusedVariables false

theorem neq_selfV (r : Fr) (w : World) : (binOp .neq 31 (frV r) (frV r)).run Try.prog w = .ok (.bool false) w := by
  rw [neq_fr, eqR_self]; rfl
set_option maxHeartbeats 1000000 in
theorem same6_any (r c : Int) (p : Option Addr) (n cap : Nat) (q : Option Addr) (cap2 : Nat) (ns : List Int) (w : World) (h : Rq 3 cellsF w (.slice p n cap) (ns.map itF)) (h2 : Rq 1 cI w (.slice q n cap2) ns) (hn : ns.length = n) (hs : ∀ x ∈ ns, Wh x) (hl : n ≤ 1000) :
    Calls Try.prog 14 #[mV r c p n cap, .int .i64 r, .int .i64 c, .slice q n cap2] w fun e w' => e = .returned (.bool true) ∧ Bl w w' := by
  have b0 : Bl w (w.alloc (.cells #[.int .i64 r, .int .i64 c, .slice p n cap] 27)) := (Bl.refl _).alloc _
  have EG := Try.frGuard
  have CA : ∀ k x, ns[k]? = some x → ∃ b o, p = some ⟨b, o, none⟩ ∧ ∀ u, Bl w u → u.cell? ⟨b, o + k * 3, none⟩ = some (.int .i64 x) ∧ u.cell? ⟨b, o + k * 3 + 1, none⟩ = some (.int .i64 1) ∧ u.cell? ⟨b, o + k * 3 + 2, none⟩ = some (.bool false) := by
    intro k x hk
    rcases h with ⟨_, _, _, h0, _⟩ | ⟨b, o, cc, e, _, hlt, HX⟩
    · have : ns = [] := by simpa using h0
      rw [this] at hk; simp at hk
    · cases e
      refine ⟨b, o, rfl, fun u hu => ?_⟩
      have hk' : (ns.map itF)[k]? = some (itF x) := by rw [List.getElem?_map, hk]; rfl
      exact ⟨(bl_cell hu _ _ hlt).trans (HX k _ hk' 0 _ rfl), (bl_cell hu _ _ hlt).trans (HX k _ hk' 1 _ rfl), (bl_cell hu _ _ hlt).trans (HX k _ hk' 2 _ rfl)⟩
  have CB : ∀ k x, ns[k]? = some x → ∃ b o, q = some ⟨b, o, none⟩ ∧ ∀ u, Bl w u → u.cell? ⟨b, o + k, none⟩ = some (.int .i64 x) := by
    intro k x hk
    rcases h2 with ⟨_, _, _, h0, _⟩ | ⟨b, o, cc, e, _, hlt, HX⟩
    · rw [h0] at hk; simp at hk
    · cases e
      exact ⟨b, o, rfl, fun u hu => (bl_cell hu _ _ hlt).trans (cellI HX hk (wr := w))⟩
  have HA := hideP CA
  have HB := hideP CB
  have HS := hideP hs
  have HN := hideP hn
  clear CA CB hs h h2 hn
  go_enter Try.func14, Try.ntmps14
  go_wp2_with fail
  go_loopw [32] (fun i wr => ∃ k : Nat, i = .int .i64 k ∧ k ≤ n ∧ Bl w wr) (fun i _ => n - (intOf i).toNat)
  case atStart => exact ⟨0, rfl, Nat.zero_le _, b0⟩
  case round =>
    obtain ⟨k, rfl, hk, bl⟩ := hrel
    by_cases hlt : k < n
    · obtain ⟨x, hx⟩ : ∃ x, ns[k]? = some x := ⟨_, List.getElem?_eq_getElem (by have := HN.out; omega)⟩
      obtain ⟨b, o, rfl, CX⟩ := HA.out k x hx
      obtain ⟨b', o', rfl, CY⟩ := HB.out k x hx
      obtain ⟨c0, c1, c2⟩ := CX wr bl
      have hw : Wh x := HS.out x (List.mem_of_getElem? hx)
      go_wp2_with fail
      obtain ⟨V, hV⟩ : ∃ V, V = wr.alloc (.cells #[.int .i64 x, .int .i64 1, .bool false] 31) := ⟨_, rfl⟩
      have bV : Bl w V := by rw [hV]; exact bl.alloc _
      have BX : FBox V wr.heap.size (itF x) := by rw [hV]; exact FBox.new wr (itF x) _
      have z0 := fun z : Wl V => (BX.later z.bl).c0
      have z1 := fun z : Wl V => (BX.later z.bl).c1
      have z2 := fun z : Wl V => (BX.later z.bl).c2
      have z3 := fun z : Wl V => CY z.w (bV.trans z.bl)
      have wne := wl_ne V
      have NW := hideP (fun z : Wl V => new_few (n := x) hw z.w)
      have ne1 := neq_selfV (itF x)
      rw [← hV]
      generalize hr : itF x = rr at *
      clear hr c0 c1 c2 CX CY BX hV
      refine wl_region V (Bl.refl _) (by kernel_rfl) (by kernel_rfl) ?_
      repeat (go_big_quiet_step (first | (go_at_call 19; exact wl_call (NW.out _))))
      refine wpQuiet_nil ?_
      intro _ hw'
      obtain ⟨z, hw''⟩ := hw'
      subst hw''
      clear wne z0 z1 z2 z3 ne1
      obtain ⟨w3, h3⟩ := z
      dsimp only
      go_wp2
      go_roundw
      case rel => exact ⟨k + 1, by simp, hlt, bV.trans h3⟩
      case measure => simp [intOf]; omega
    · obtain rfl : k = n := by omega
      go_wp2
      go_ret
      exact ⟨rfl, bl⟩
end Go.Proofs.Ytokbmbgiimbkpaa

/- Contract of layer 6's Alike. -/
namespace Go.Proofs.Ytokbmbgiimbkpaa
open Go.RowKit
set_option linter.unusedSimpArgs false
set_option linter.unusedVariables false

/-- Two rows of the same numbers, cell by cell. -/
theorem rq_cells {p : Option Addr} {n cap : Nat} {xs : List Fr} {w : World} (h : Rq 3 cellsF w (.slice p n cap) xs) : ∀ k x, xs[k]? = some x → ∃ b o, p = some ⟨b, o, none⟩ ∧ ∀ u, Bl w u → u.cell? ⟨b, o + k * 3, none⟩ = some (.int .i64 x.n) ∧ u.cell? ⟨b, o + k * 3 + 1, none⟩ = some (.int .i64 x.d) ∧ u.cell? ⟨b, o + k * 3 + 2, none⟩ = some (.bool x.bad) := by
  intro k x hk
  rcases h with ⟨_, _, _, h0, _⟩ | ⟨b, o, cc, e, _, hlt, HX⟩
  · rw [h0] at hk; simp at hk
  · cases e
    exact ⟨b, o, rfl, fun u hu => ⟨(bl_cell hu _ _ hlt).trans (HX k _ hk 0 _ rfl), (bl_cell hu _ _ hlt).trans (HX k _ hk 1 _ rfl), (bl_cell hu _ _ hlt).trans (HX k _ hk 2 _ rfl)⟩⟩
set_option maxHeartbeats 1000000 in
theorem alike_any (r c : Int) (p q : Option Addr) (n cap cap2 : Nat) (xs : List Fr) (w : World) (h : Rq 3 cellsF w (.slice p n cap) xs) (h2 : Rq 3 cellsF w (.slice q n cap2) xs) (hn : xs.length = n) (hl : n ≤ 1000) :
    Calls Try.prog 30 #[mV r c p n cap, mV r c q n cap2] w fun e w' => e = .returned (.bool true) ∧ Bl w w' := by
  have EG := Try.frGuard
  obtain ⟨W, hW⟩ : ∃ W, W = (w.alloc (.cells #[.int .i64 r, .int .i64 c, .slice p n cap] 27)).alloc (.cells #[.int .i64 r, .int .i64 c, .slice q n cap2] 27) := ⟨_, rfl⟩
  have b0 : Bl w W := by rw [hW]; exact ((Bl.refl _).alloc _).alloc _
  have mx0 : MBox W w.heap.size r c p n cap := by rw [hW]; exact (MBox.new w _ _ _ _ _ _).later ((Bl.refl _).alloc _)
  have my0 : MBox W (w.heap.size + 1) r c q n cap2 := by rw [hW]; have := (MBox.new (w.alloc (.cells #[.int .i64 r, .int .i64 c, .slice p n cap] 27)) r c q n cap2 27); rw [World.size_alloc] at this; exact this
  have HA := hideP (rq_cells h)
  have HB := hideP (rq_cells h2)
  have HN := hideP hn
  have HW := hideP hW
  clear h h2 hn hW
  go_enter Try.func30, Try.ntmps30
  go_wp2_with fail
  rw [← HW.out]
  go_loopw [30] (fun i wr => ∃ k : Nat, i = .int .i64 k ∧ k ≤ n ∧ Bl W wr) (fun i _ => n - (intOf i).toNat)
  case atStart => exact ⟨0, rfl, Nat.zero_le _, Bl.refl _⟩
  case round =>
    obtain ⟨k, rfl, hk, bl⟩ := hrel
    by_cases hlt : k < n
    · obtain ⟨x, hx⟩ : ∃ x, xs[k]? = some x := ⟨_, List.getElem?_eq_getElem (by have := HN.out; omega)⟩
      obtain ⟨b, o, rfl, CX⟩ := HA.out k x hx
      obtain ⟨b', o', rfl, CY⟩ := HB.out k x hx
      have z0 := fun z : Wl wr => (CX z.w (b0.trans (bl.trans z.bl))).1
      have z1 := fun z : Wl wr => (CX z.w (b0.trans (bl.trans z.bl))).2.1
      have z2 := fun z : Wl wr => (CX z.w (b0.trans (bl.trans z.bl))).2.2
      have y0 := fun z : Wl wr => (CY z.w (b0.trans (bl.trans z.bl))).1
      have y1 := fun z : Wl wr => (CY z.w (b0.trans (bl.trans z.bl))).2.1
      have y2 := fun z : Wl wr => (CY z.w (b0.trans (bl.trans z.bl))).2.2
      have m2 := fun z : Wl wr => (mx0.later (bl.trans z.bl)).c2
      have n2 := fun z : Wl wr => (my0.later (bl.trans z.bl)).c2
      have wne := wl_ne wr
      have ne1 := neq_selfV x
      clear CX CY
      go_wp2_with fail
      refine wl_region wr (Bl.refl _) (by kernel_rfl) (by kernel_rfl) ?_
      repeat (go_big_quiet_step (first | fail))
      refine wpQuiet_nil ?_
      intro _ hw'
      obtain ⟨z, hw''⟩ := hw'
      subst hw''
      clear wne z0 z1 z2 y0 y1 y2 m2 n2 ne1
      obtain ⟨w3, h3⟩ := z
      dsimp only
      go_wp2
      go_roundw
      case rel => exact ⟨k + 1, by simp, hlt, bl.trans h3⟩
      case measure => simp [intOf]; omega
    · obtain rfl : k = n := by omega
      go_wp2
      go_ret
      exact ⟨rfl, b0.trans bl⟩
end Go.Proofs.Ytokbmbgiimbkpaa

/- Matrices of whole numbers, as fractions: contracts in the words of layer 6's laws; awake. -/
namespace Go.Proofs.Ytokbmbgiimbkpaa
open Go.RowKit
set_option linter.unusedSimpArgs false
set_option linter.unusedVariables false

/-- All numbers of a matrix are so small. -/
def Sm2 (A : Int) (R C : Nat) (g : Nat → Nat → Int) : Prop := ∀ i k, i < R → k < C → -A ≤ g i k ∧ g i k ≤ A
/-- A matrix of whole numbers, as fractions. -/
abbrev MxI (w : World) (R C : Nat) (p : Option Addr) (n cap : Nat) (g : Nat → Nat → Int) : Prop := Mx 3 cellsF w R C p n cap (fun i k => itF (g i k))
theorem rowI_it (C : Nat) (g : Nat → Nat → Int) (i : Nat) : rowM C (fun i k => itF (g i k)) i = (rowM C g i).map itF := by simp [rowM]
theorem colI_it (R : Nat) (g : Nat → Nat → Int) (k : Nat) : colM R (fun i k => itF (g i k)) k = (colM R g k).map itF := by simp [colM]
theorem row_sml {A : Int} {R C : Nat} {g : Nat → Nat → Int} (h : Sm2 A R C g) {i : Nat} (hi : i < R) : Sml A (rowM C g i) := by
  intro x hx
  obtain ⟨k, hk, rfl⟩ := List.mem_map.1 hx
  exact h i k hi (by simpa using hk)
theorem col_sml {A : Int} {R C : Nat} {g : Nat → Nat → Int} (h : Sm2 A R C g) {k : Nat} (hk : k < C) : Sml A (colM R g k) := by
  intro x hx
  obtain ⟨i, hi, rfl⟩ := List.mem_map.1 hx
  exact h i k (by simpa using hi) hk
theorem mk_sml {A : Int} {R C : Nat} {g : Nat → Nat → Int} (h : Sm2 A R C g) : Sml A (mk R C g) := by
  intro x hx
  obtain ⟨i, hi, hx⟩ := List.mem_flatMap.1 hx
  exact row_sml h (by simpa using hi) x hx
/-- The dot of whole numbers that are small enough. -/
theorem dot_it6 {A B : Int} {xs ys : List Int} (h : Sml A xs) (k : Sml B ys) (hA : 0 ≤ A ∧ A ≤ 1073741824) (hB : 0 ≤ B ∧ B ≤ 1073741824) (hl : xs.length ≤ 16) (hAB : A * B ≤ 67108864) : dotF (xs.map itF) (ys.map itF) = itF (dotI xs ys) := by
  unfold dotF dotI
  have hp : 0 ≤ A * B := Int.mul_nonneg hA.1 hB.1
  rw [muls_it (by omega) (by omega) (by omega) xs ys h k]
  refine sum_it (B := A * B) _ (muls_sml h k) hp ?_
  have hln : (List.zipWith (· * ·) xs ys).length ≤ 16 := by simp; omega
  have := Int.mul_le_mul_of_nonneg_left (show ((List.zipWith (· * ·) xs ys).length : Int) ≤ 16 by omega) hp
  omega
theorem mulM_it {A B : Int} {R M D : Nat} {a b : Nat → Nat → Int} (ha : Sm2 A R M a) (hb : Sm2 B M D b) (hM : M ≤ 16) (hA : 0 ≤ A ∧ A ≤ 1073741824) (hB : 0 ≤ B ∧ B ≤ 1073741824) (hAB : A * B ≤ 67108864) {i k : Nat} (hi : i < R) (hk : k < D) :
    mulMF M (fun i k => itF (a i k)) (fun i k => itF (b i k)) i k = itF (mulI M a b i k) := by
  unfold mulMF mulI
  rw [rowI_it, colI_it]
  exact dot_it6 (row_sml ha hi) (col_sml hb hk) hA hB (by rw [rowM_len]; exact hM) hAB
theorem Mx.congr {α : Type} {s : Nat} {c : α → List Value} {w : World} {R C : Nat} {p : Option Addr} {n cap : Nat} {f g : Nat → Nat → α} (h : Mx s c w R C p n cap f) (e : ∀ i k, i < R → k < C → f i k = g i k) : Mx s c w R C p n cap g :=
  ⟨h.1, h.2.1, by rw [← mk_congr e]; exact h.2.2⟩
theorem mul6_any {A B : Int} (R M D : Nat) (p : Option Addr) (n cap : Nat) (a : Nat → Nat → Int) (q : Option Addr) (n2 cap2 : Nat) (b : Nat → Nat → Int) (N : Nat) (w : World) (hx : MxI w R M p n cap a) (hy : MxI w M D q n2 cap2 b) (hN : N = R * D) (ha : Sm2 A R M a) (hb : Sm2 B M D b) (hA : 0 ≤ A ∧ A ≤ 1073741824) (hB : 0 ≤ B ∧ B ≤ 1073741824) (hAB : A * B ≤ 67108864) :
    Calls Try.prog 20 #[mV R M p n cap, mV M D q n2 cap2] w fun e w' => ∃ p' cap', e = .returned (.tuple #[mV R D p' N cap', .bool true]) ∧ MxI w' R D p' N cap' (mulI M a b) ∧ Bl w w' := by
  refine (mMulF R M D p n cap _ q n2 cap2 _ N w hx hy hN).mono ?_
  rintro e w' ⟨p', cap', rfl, ⟨h, _, _⟩, hb'⟩
  exact ⟨p', cap', rfl, h.congr (fun i k hi hk => mulM_it ha hb hx.1.c2 hA hB hAB hi hk), hb'⟩
/-- Whole, of numbers that go together. -/
theorem whole6_any (r c : Int) (p : Option Addr) (n cap : Nat) (ns : List Int) (w : World) (hr : Rq 1 cI w (.slice p n cap) ns) (h : fitB r c n = true) (hn : ns.length = n) (hs : Sml 100 ns) :
    ∃ R C : Nat, r = R ∧ c = C ∧ Dim R C ∧ n = R * C ∧ Sm2 100 R C (ofL C ns) ∧ Calls Try.prog 12 #[.int .i64 r, .int .i64 c, .slice p n cap] w fun e w' => ∃ p' cap', e = .returned (.tuple #[mV R C p' n cap', .bool true]) ∧ MxI w' R C p' n cap' (ofL C ns) ∧ Bl w w' := by
  obtain ⟨R, C, rfl, rfl, hd, hn'⟩ := fitB_nat h
  refine ⟨R, C, rfl, rfl, hd, hn', ofL_sml (by omega) hs, ?_⟩
  refine (mWholeF R C p n cap ns w hr h hn).mono ?_
  rintro e w' ⟨p', cap', rfl, hR, hb⟩
  refine ⟨p', cap', rfl, ⟨hd, hn', ?_⟩, hb⟩
  have e : ns.map wholeF = mk R C (fun i k => itF (ofL C ns i k)) := by
    rw [wholes_it ns hs (by omega), ← mk_map, ← ofL_mk (by omega)]
  rw [← e]
  exact hR.q
theorem whole6_call (R C : Nat) (p : Option Addr) (n cap : Nat) (ns : List Int) (w : World) (hr : Rq 1 cI w (.slice p n cap) ns) (h : fitB R C n = true) (hn : ns.length = n) (hs : Sml 100 ns) :
    Calls Try.prog 12 #[.int .i64 R, .int .i64 C, .slice p n cap] w fun e w' => ∃ p' cap', e = .returned (.tuple #[mV R C p' n cap', .bool true]) ∧ MxI w' R C p' n cap' (ofL C ns) ∧ Bl w w' := by
  obtain ⟨R', C', h1, h2, _, _, _, h3⟩ := whole6_any R C p n cap ns w hr h hn hs
  obtain rfl : R = R' := by omega
  obtain rfl : C = C' := by omega
  exact h3
theorem rq_new4 (w : World) (x y z u : Int) (t : TypeId) : Rq 1 cI (w.alloc (.cells #[.int .i64 x, .int .i64 y, .int .i64 z, .int .i64 u] t)) (.slice (some ⟨w.heap.size, 0, none⟩) 4 4) [x, y, z, u] := by
  refine .inr ⟨w.heap.size, 0, 4, rfl, Nat.le_refl _, by simp, fun j v hj k s hu => ?_⟩
  rcases k with _ | k
  · simp at hu
    subst hu
    rcases j with _ | _ | _ | _ | j
    · simp at hj; subst hj; simp [go_sem]
    · simp at hj; subst hj; simp [go_sem]
    · simp at hj; subst hj; simp [go_sem]
    · simp at hj; subst hj; simp [go_sem]
    · simp at hj
  · simp at hu
/-- awake's two matrices. -/
theorem whole22 (x y z u : Int) (w : World) (t : TypeId) (hs : Sml 100 [x, y, z, u]) (b0 : Nat) (hb0 : b0 = w.heap.size) : Calls Try.prog 12 #[.int .i64 2, .int .i64 2, .slice (some ⟨b0, 0, none⟩) 4 4] (w.alloc (.cells #[.int .i64 x, .int .i64 y, .int .i64 z, .int .i64 u] t)) fun e w' => ∃ p' cap', e = .returned (.tuple #[mV 2 2 p' 4 cap', .bool true]) ∧ MxI w' 2 2 p' 4 cap' (ofL 2 [x, y, z, u]) ∧ Bl (w.alloc (.cells #[.int .i64 x, .int .i64 y, .int .i64 z, .int .i64 u] t)) w' := by
  subst hb0
  obtain ⟨R, C, h1, h2, _, _, _, h⟩ := whole6_any 2 2 _ 4 4 [x, y, z, u] _ (rq_new4 w x y z u t) (by decide) rfl hs
  obtain rfl : R = 2 := by omega
  obtain rfl : C = 2 := by omega
  exact h
set_option maxHeartbeats 1000000 in
theorem awake6_any (w : World) : Calls Try.prog 11 #[] w fun e w' => e = .returned (.bool true) ∧ Bl w w' := by
  have EG := Try.frGuard
  have e1 := eql_selfV (itF 2)
  have e2 := eql_selfV (itF 3)
  have s1 : Sml 100 [1, 2, 3, 4] := by intro x hx; simp at hx; omega
  have s2 : Sml 100 [0, 1, 1, 0] := by intro x hx; simp at hx; omega
  go_enter Try.func11, Try.ntmps11
  go_wp2_with fail
  refine (whole22 1 2 3 4 w _ s1 _ rfl).mono ?_
  rintro e w1 ⟨p1, c1, rfl, hx, h1⟩
  have HX := hideP hx
  clear hx
  have m1 := MBox.new w1 2 2 p1 4 c1 27
  go_wp2_with fail
  refine (whole22 0 1 1 0 (w1.alloc (.cells #[.int .i64 2, .int .i64 2, .slice p1 4 c1] 27)) _ s2 _ (by simp)).mono ?_
  rintro e w2 ⟨p2, c2, rfl, hy, h2⟩
  have HY := hideP hy
  clear hy
  have b12 : Bl w1 w2 := (((Bl.refl w1).alloc _).alloc _).trans h2
  have m1' := (m1.later ((Bl.refl _).alloc _)).later h2
  have m2 := MBox.new w2 2 2 p2 4 c2 27
  obtain ⟨x0, x1, x2, _, _, _, lt⟩ := m1'
  go_wp2_with fail
  refine (mul6_any (A := 100) (B := 100) 2 2 2 p1 4 c1 _ p2 4 c2 _ 4 _ (HX.out.later (b12.trans ((Bl.refl _).alloc _))) (HY.out.later ((Bl.refl _).alloc _)) rfl (ofL_sml rfl s1) (ofL_sml rfl s2) (by omega) (by omega) (by omega)).mono ?_
  rintro e w3 ⟨p3, c3, rfl, hz, h3⟩
  have HZ := hideP hz
  clear hz x0 x1 x2
  have m3 := MBox.new w3 2 2 p3 4 c3 27
  go_wp2_with fail
  refine (mAtF 2 2 p3 4 c3 _ _ (HZ.out.later ((Bl.refl _).alloc _)) 0 0 (by omega) (by omega)).mono ?_
  rintro e w4 ⟨rfl, h4⟩
  rw [show mulI 2 (ofL 2 [1, 2, 3, 4]) (ofL 2 [0, 1, 1, 0]) 0 0 = 2 by decide]
  go_wp2_with fail
  refine (new_few (n := 2) ⟨by omega, by omega⟩ _).mono ?_
  rintro e w5 ⟨rfl, h5⟩
  obtain ⟨y0, y1, y2, _, _, _, lt3⟩ := (m3.later h4).later h5
  go_wp2_with fail
  refine (mAtF 2 2 p3 4 c3 _ _ (((HZ.out.later ((Bl.refl _).alloc _)).later h4).later h5) 1 1 (by omega) (by omega)).mono ?_
  rintro e w6 ⟨rfl, h6⟩
  rw [show mulI 2 (ofL 2 [1, 2, 3, 4]) (ofL 2 [0, 1, 1, 0]) 1 1 = 3 by decide]
  clear y0 y1 y2
  go_wp2_with fail
  refine (new_few (n := 3) ⟨by omega, by omega⟩ _).mono ?_
  rintro e w7 ⟨rfl, h7⟩
  have b27 : Bl w2 w7 := ((((((Bl.refl w2).alloc _).trans h3).alloc _).trans h4).trans h5).trans (h6.trans h7)
  obtain ⟨x0, x1, x2, _, _, _, ltx⟩ := ((m1.later ((Bl.refl _).alloc _)).later h2).later b27
  go_wp2_with fail
  refine (mRightF _ _ _ _ _ _).mono ?_
  rintro e w8 ⟨rfl, h8⟩
  rw [show fitB 2 2 ((4 : Nat) : Int) = true by decide]
  go_wp2
  go_ret
  exact ⟨rfl, ((((Bl.refl w).alloc _).trans h1).trans (b12.trans b27)).trans h8⟩
end Go.Proofs.Ytokbmbgiimbkpaa

/- Contract of the document's Mul (layer 6). -/
namespace Go.Proofs.Ytokbmbgiimbkpaa
open Go.RowKit
set_option linter.unusedSimpArgs false
set_option linter.unusedVariables false

theorem own_blI {w w' : World} {B n : Nat} {v : Value} {l : List Value} (h : w.ownsRow B 3 1 v n l) (k : Bl w w') : w'.ownsRow B 3 1 v n l := by
  refine ⟨h.1, ?_⟩
  rcases h.2 with hn | ⟨g, cap, cur, rfl, hb, hg, rest⟩
  · exact .inl hn
  · exact .inr ⟨g, cap, cur, rfl, hb, (Below.block k g (Array.getElem?_eq_some_iff.1 hg).1).trans hg, rest⟩
theorem newI_cells (w : World) (x : Int) (t : TypeId) : ∀ j u, (cellsI x)[j]? = some u → (w.alloc (.cells #[.int .i64 x] t)).cell? ((⟨w.heap.size, 0, none⟩ : Addr).add j) = some u := by
  intro j u hu
  unfold cellsI at hu
  rcases j with _ | j
  · simp at hu
    subst hu
    simp [go_sem, Addr.add]
  · simp at hu
set_option maxHeartbeats 2000000 in
theorem ref6Mul_any (pa qa : Option Addr) (na ca nb cb : Nat) (xa xb : List Int) (R M D : Nat) (w : World) (hd : Dim R M) (he : Dim M D) (ha : Rq 1 cI w (.slice pa na ca) xa) (hb : Rq 1 cI w (.slice qa nb cb) xb) (la : xa.length = R * M) (lb : xb.length = M * D) (lna : na = R * M) (lnb : nb = M * D) (sa : Sml 100 xa) (sb : Sml 100 xb) :
    Calls Try.prog 21 #[.slice pa na ca, .int .i64 R, .int .i64 M, .slice qa nb cb, .int .i64 D] w fun e w' => ∃ p cap, e = .returned (.slice p (R * D) cap) ∧ Rw 1 cellsI w' (.slice p (R * D) cap) (mk R D (mulI M (ofL M xa) (ofL D xb))) ∧ Bl w w' := by
  obtain ⟨i0, hi, hz0, hz1, hz2⟩ := info_parts Try.info_I
  have fm : Try.prog.follows .mixedOrders = true := by kernel_rfl
  have CA : ∀ i j, i < R → j < M → ∃ b o, pa = some ⟨b, o, none⟩ ∧ ∀ u, Bl w u → u.cell? ⟨b, o + (i * M + j), none⟩ = some (.int .i64 (ofL M xa i j)) := by
    intro i j hi' hj
    have hg := ofL_get la hi' hj
    rcases ha with ⟨_, _, _, h0, _⟩ | ⟨b, o, cc, e, _, hlt, HX⟩
    · rw [h0] at hg; simp at hg
    · cases e
      exact ⟨b, o, rfl, fun u hu => (bl_cell hu _ _ hlt).trans (cellI HX hg (wr := w))⟩
  have CB : ∀ j k, j < M → k < D → ∃ b o, qa = some ⟨b, o, none⟩ ∧ ∀ u, Bl w u → u.cell? ⟨b, o + (j * D + k), none⟩ = some (.int .i64 (ofL D xb j k)) := by
    intro i j hi' hj
    have hg := ofL_get lb hi' hj
    rcases hb with ⟨_, _, _, h0, _⟩ | ⟨b, o, cc, e, _, hlt, HX⟩
    · rw [h0] at hg; simp at hg
    · cases e
      exact ⟨b, o, rfl, fun u hu => (bl_cell hu _ _ hlt).trans (cellI HX hg (wr := w))⟩
  have BA := ofL_sml la sa
  have BB := ofL_sml lb sb
  have BM := fun (i k : Nat) (hi : i < R) (hk : k < D) => mulI_bound (A := 100) (B := 100) (by omega) (by omega) BA BB hi hk
  have HCA := hideP CA
  have HCB := hideP CB
  have HBA := hideP BA
  have HBB := hideP BB
  have HBM := hideP BM
  have hR16 := hd.r2
  have hM16 := hd.c2
  have hD16 := he.c2
  have HLA := hideP lna
  have HLB := hideP lnb
  clear CA CB BA BB BM ha hb la lb sa sb lna lnb
  generalize ofL M xa = fa at *
  generalize ofL D xb = fb at *
  go_enter Try.func21, Try.ntmps21
  go_wp2_with fail
  go_loopw [11, 12] (fun v i wr => ∃ j : Nat, i = .int .i64 j ∧ j ≤ R ∧ wr.ownsRow w.heap.size 3 1 v (mk j D (mulI M fa fb)).length ((mk j D (mulI M fa fb)).flatMap cellsI) ∧ Bl w wr) (fun _ i _ => R - (intOf i).toNat)
  case atStart => exact ⟨0, rfl, Nat.zero_le _, World.ownsRow_nil _ _ _ _, Bl.refl _⟩
  case round =>
    obtain ⟨j, rfl, hj, hown, hB⟩ := hrel
    by_cases hlt : j < R
    · go_wp2_with fail
      go_loopw [11, 13] (fun v i wr => ∃ k : Nat, i = .int .i64 k ∧ k ≤ D ∧ wr.ownsRow w.heap.size 3 1 v (mk j D (mulI M fa fb) ++ rowM k (mulI M fa fb) j).length ((mk j D (mulI M fa fb) ++ rowM k (mulI M fa fb) j).flatMap cellsI) ∧ Bl w wr) (fun _ i _ => D - (intOf i).toNat)
      case atStart => exact ⟨0, rfl, Nat.zero_le _, by simpa [rowM] using hown, hB⟩
      case round =>
        clear hown hB
        obtain ⟨k, rfl, hk, hown, hB⟩ := hrel
        by_cases hlt2 : k < D
        · have HO := hideP hown
          clear hown
          go_wp2_with fail
          go_loopw [14, 15] (fun s i wr' => ∃ m : Nat, i = .int .i64 m ∧ m ≤ M ∧ s = .int .i64 (mulI m fa fb j k) ∧ Bl wr wr') (fun _ i _ => M - (intOf i).toNat)
          case atStart => exact ⟨0, rfl, Nat.zero_le _, rfl, Bl.refl _⟩
          case round =>
            obtain ⟨m, rfl, hm, rfl, hB3⟩ := hrel
            by_cases hlt3 : m < M
            · obtain ⟨b, o, rfl, CX⟩ := HCA.out j m hlt hlt3
              obtain ⟨b', o', rfl, CY⟩ := HCB.out m k hlt3 hlt2
              obtain ⟨a1, q1, e1, e2, hq1, hq3, hq5, hq6⟩ := place hd hlt hlt3
              obtain ⟨a2, q2, e3, e4, hp1, hp3, hp5, hp6⟩ := place he hlt3 hlt2
              rw [← e2] at CX
              rw [← e4] at CY
              rw [← HLA.out] at hq5
              rw [← HLB.out] at hp5
              have cx := CX wr.drew (hB.trans hB3).drew
              have cy := CY wr.drew (hB.trans hB3).drew
              have bx := HBA.out j m hlt hlt3
              have bY := HBB.out m k hlt3 hlt2
              have bm := mul_bound bx bY
              have bd := HBM.out j k hlt hlt2 m hm
              have HS := hideP (mulI_succ m fa fb j k)
              clear CX CY e1 e2 e3 e4
              generalize mulI m fa fb j k = d at *
              generalize fa j m = x at *
              generalize fb m k = y at *
              generalize hxy : x * y = z at *
              go_wp2
              go_region
              go_wp2
              go_roundw
              case rel => exact ⟨m + 1, by simp, hlt3, by rw [HS.out], hB3.drew⟩
              case measure => simp [intOf]; omega
            · obtain rfl : m = M := by omega
              have hB4 := hB.trans hB3
              have hown := own_blI HO.out hB3
              have HT := hideP (show mk j D (mulI m fa fb) ++ rowM (k + 1) (mulI m fa fb) j = (mk j D (mulI m fa fb) ++ rowM k (mulI m fa fb) j) ++ [mulI m fa fb j k] by rw [rowM_succ, List.append_assoc])
              have hlen : (mk j D (mulI m fa fb) ++ rowM k (mulI m fa fb) j).length ≤ 256 := by
                have h1 : j * D + k < R * D := mk_idx hlt hlt2
                have h2 : R * D ≤ 256 := Nat.mul_le_mul hR16 hD16
                rw [List.length_append, mk_len, rowM_len]
                omega
              generalize mk j D (mulI m fa fb) ++ rowM k (mulI m fa fb) j = ys at *
              generalize mulI m fa fb j k = x at *
              go_wp2_with (at_builtin; refine wpList_append_own _ rfl _ _ 22 rfl w.heap.size 3 i0 (.int .i64 0) 1 8 Try.underlying22 hi hz0 hz1 hz2 rfl (by decide) _ _ _ rfl (hown.alloc _) ⟨_, 0, none⟩ 1 1 (cellsI x) rfl rfl (newI_cells _ _ _) (oneI_cells _) (by unfold maxLen; omega) (by omega) (by have := hB4.size; simp; omega) ?_; intro v' w1 hown' hgrow _)
              have R1 := own_more (ys := [x]) (hB4.alloc _) (Nat.le_refl _) (hown.alloc _) (by simpa using hown') rfl hgrow
              clear hown hown' hgrow
              go_wp2
              go_roundw
              case rel => exact ⟨k + 1, by simp, hlt2, by rw [HT.out]; exact R1.2, R1.1⟩
              case measure => simp [intOf]; omega
        · obtain rfl : k = D := by omega
          have HT := hideP (mk_succ j k (mulI M fa fb))
          go_wp2_with fail
          go_roundw
          case rel => exact ⟨j + 1, by simp, hlt, by rw [HT.out]; exact hown, hB⟩
          case measure => simp [intOf]; omega
    · obtain rfl : j = R := by omega
      have RW := hideP (Rw.of_own cellsI_len hown)
      obtain ⟨p', cap', hv, _, _⟩ := RW.out.cut
      rw [mk_len] at hv
      clear hown
      subst hv
      go_wp2
      go_ret
      exact ⟨p', cap', rfl, RW.out, hB⟩
end Go.Proofs.Ytokbmbgiimbkpaa
