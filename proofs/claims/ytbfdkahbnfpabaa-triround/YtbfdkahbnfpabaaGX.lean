/- TriRound: the root of what was squared, squared again, is the square, in fractions, where all roots are (of 5 by 5 at most, numbers from -100 up to 100). Conditions: none (every input). -/
import Derived.Test.YtbfdkahbnfpabaaFrN
import Derived.Test.YtbfdkahbnfpabaaVeHF
import Derived.Test.YtbfdkahbnfpabaaVeM
import Derived.Test.YtbfdkahbnfpabaaGU
import Derived.Test.YtbfdkahbnfpabaaVeI
import Derived.ProofKit
import Derived.OpenShut
import Derived.Carry
/- What is told of fractions, as rational numbers: where what is told may be one, so may all that it came of, and it is the rational sum, product .. Mathematics alone. -/
namespace Go.Proofs.Ytbfdkahbnfpabaa
open Go.RowKit
set_option linter.unusedSimpArgs false
set_option linter.unusedVariables false

theorem wrong_nf : fineR wrongR = false := rfl
theorem ofQ_q {q : Rat} (h : fineR (ofQ q) = true) : toQ (ofQ q) = q := toQ_ofQ (by rw [← ofQ_fine]; exact h)
theorem add_q {a b : Fr} (h : fineR (addR a b) = true) : fineR a = true ∧ fineR b = true ∧ toQ (addR a b) = toQ a + toQ b := by
  cases ha : fineR a
  · unfold addR at h; rw [ha] at h; cases h
  cases hb : fineR b
  · unfold addR at h; rw [ha, hb] at h; cases h
  rw [addR_fine ha hb] at h ⊢
  exact ⟨rfl, rfl, ofQ_q h⟩
theorem sub_q {a b : Fr} (h : fineR (subR a b) = true) : fineR a = true ∧ fineR b = true ∧ toQ (subR a b) = toQ a - toQ b := by
  cases ha : fineR a
  · unfold subR at h; rw [ha] at h; cases h
  cases hb : fineR b
  · unfold subR at h; rw [ha, hb] at h; cases h
  rw [subR_fine ha hb] at h ⊢
  exact ⟨rfl, rfl, ofQ_q h⟩
theorem mul_q {a b : Fr} (h : fineR (mulR a b) = true) : fineR a = true ∧ fineR b = true ∧ toQ (mulR a b) = toQ a * toQ b := by
  cases ha : fineR a
  · unfold mulR at h; rw [ha] at h; cases h
  cases hb : fineR b
  · unfold mulR at h; rw [ha, hb] at h; cases h
  rw [mulR_fine ha hb] at h ⊢
  exact ⟨rfl, rfl, ofQ_q h⟩
theorem div_q {a b : Fr} (h : fineR (divR a b) = true) : fineR a = true ∧ fineR b = true ∧ toQ b ≠ 0 ∧ toQ (divR a b) = toQ a / toQ b := by
  cases ha : fineR a
  · unfold divR at h; rw [ha] at h; cases h
  cases hb : fineR b
  · unfold divR at h; rw [ha, hb] at h; cases h
  by_cases h0 : b.n = 0
  · unfold divR at h; rw [ha, hb, show decide (b.n ≠ 0) = false by simp [h0]] at h; cases h
  rw [divR_fine ha hb h0] at h ⊢
  exact ⟨rfl, rfl, toQ_ne hb h0, ofQ_q h⟩
/-- What a quotient is multiplied by undoes it. -/
theorem div_mul_q {a b : Fr} (h : fineR (divR a b) = true) : toQ (divR a b) * toQ b = toQ a := by
  obtain ⟨_, _, h0, e⟩ := div_q h
  rw [e, Rat.div_def, Rat.mul_assoc, Rat.inv_mul_cancel _ h0, Rat.mul_one]
theorem root_q {a : Fr} (h : fineR (rootR a) = true) : fineR a = true ∧ toQ (rootR a) * toQ (rootR a) = toQ a ∧ 0 ≤ (rootR a).n := by
  cases ha : fineR a
  · unfold rootR at h; rw [ha] at h; cases h
  unfold rootR at h ⊢
  rw [ha, if_pos rfl] at h ⊢
  cases he : eqR (mulR (tryR a) (tryR a)) a
  · rw [he, if_neg (by simp)] at h; cases h
  rw [he, if_pos rfl] at h
  rw [if_pos rfl]
  have e := eqR_iff.1 he
  have q := (mul_q (a := tryR a) (b := tryR a) (by rw [e]; exact ha)).2.2
  rw [e] at q
  exact ⟨rfl, q.symm, (flR_le (fineR_iff.1 ha).2.2.2.2.1).1⟩
/-- The sum of rational numbers. -/
def sumQ : List Rat → Rat
  | [] => 0
  | x :: xs => x + sumQ xs
theorem sumQ_append : ∀ (xs ys : List Rat), sumQ (xs ++ ys) = sumQ xs + sumQ ys
  | [], ys => by simp [sumQ, Rat.zero_add]
  | x :: xs, ys => by simp only [List.cons_append, sumQ]; rw [sumQ_append xs ys, Rat.add_assoc]
theorem fold_q : ∀ (xs : List Fr) (a : Fr), fineR (xs.foldl addR a) = true → fineR a = true ∧ (∀ x ∈ xs, fineR x = true) ∧ toQ (xs.foldl addR a) = toQ a + sumQ (xs.map toQ)
  | [], a, h => ⟨h, fun x hx => by simp at hx, by simp [sumQ, Rat.add_zero]⟩
  | y :: xs, a, h => by
    simp only [List.foldl_cons] at h ⊢
    obtain ⟨h1, h2, h3⟩ := fold_q xs (addR a y) h
    obtain ⟨g1, g2, g3⟩ := add_q h1
    refine ⟨g1, fun x hx => ?_, ?_⟩
    · rcases List.mem_cons.1 hx with rfl | hx
      · exact g2
      · exact h2 x hx
    · rw [h3, g3, List.map_cons, sumQ, Rat.add_assoc]
theorem new0_q : toQ (newR 0 1) = 0 := by
  rw [new_it (n := 0) ⟨by omega, by omega⟩]
  exact Rat.zero_divInt _
theorem sum_q {xs : List Fr} (h : fineR (sumF xs) = true) : (∀ x ∈ xs, fineR x = true) ∧ toQ (sumF xs) = sumQ (xs.map toQ) := by
  obtain ⟨_, h2, h3⟩ := fold_q xs _ h
  refine ⟨h2, ?_⟩
  rw [show sumF xs = xs.foldl addR (newR 0 1) from rfl, h3, new0_q, Rat.zero_add]
/-- The dot of rational numbers. -/
def dotQ (xs ys : List Rat) : Rat := sumQ (List.zipWith (· * ·) xs ys)
theorem muls_q : ∀ {xs ys : List Fr}, (∀ z ∈ List.zipWith mulR xs ys, fineR z = true) → (List.zipWith mulR xs ys).map toQ = List.zipWith (· * ·) (xs.map toQ) (ys.map toQ)
  | [], _, _ => by simp
  | _ :: _, [], _ => by simp
  | x :: xs, y :: ys, h => by
    simp only [List.zipWith_cons_cons, List.map_cons]
    rw [(mul_q (h (mulR x y) (by simp))).2.2, muls_q fun z hz => h z (by simp only [List.zipWith_cons_cons]; exact List.mem_cons_of_mem _ hz)]
theorem dot_q {xs ys : List Fr} (h : fineR (dotF xs ys) = true) : (∀ z ∈ List.zipWith mulR xs ys, fineR z = true) ∧ toQ (dotF xs ys) = dotQ (xs.map toQ) (ys.map toQ) := by
  obtain ⟨h1, h2⟩ := sum_q h
  refine ⟨h1, ?_⟩
  rw [show dotF xs ys = sumF (List.zipWith mulR xs ys) from rfl, h2, muls_q h1]
  rfl
theorem dotQ_snoc {xs ys : List Rat} (h : xs.length = ys.length) (x y : Rat) : dotQ (xs ++ [x]) (ys ++ [y]) = dotQ xs ys + x * y := by
  unfold dotQ
  rw [List.zipWith_append h, sumQ_append]
  simp [sumQ, Rat.add_zero]
theorem toQ_whole (n : Int) : toQ ⟨n, 1, false⟩ = (n : Rat) := by
  unfold toQ
  first | exact (Rat.intCast_eq_divInt n).symm | simp [Rat.divInt, Rat.mkRat_one] | exact (Rat.mkRat_one n)
/-- Fractions that are the same rational number are the same. -/
theorem fr_eq {a b : Fr} (ha : fineR a = true) (hb : fineR b = true) (h : toQ a = toQ b) : a = b := toQ_inj ha hb h
end Go.Proofs.Ytbfdkahbnfpabaa

/- The square of a root, of fractions (layer 7). Mathematics alone. -/
namespace Go.Proofs.Ytbfdkahbnfpabaa
open Go.RowKit
set_option linter.unusedSimpArgs false
set_option linter.unusedVariables false

theorem rootTo_stable {α : Type} {sub div : α → α → α} {root : α → α} {dot : List α → List α → α} {z : α} {p : Nat → Nat → α} {i j k : Nat} (hj : j < k) : ∀ m, k ≤ m → rootTo sub div root dot z p m i j = rootTo sub div root dot z p k i j
  | 0, h => by omega
  | m + 1, h => by
    by_cases e : k = m + 1
    · rw [e]
    · rw [← rootTo_stable hj m (by omega)]
      show rootStep _ _ _ _ _ _ m i j = _
      unfold rootStep
      rw [if_neg (by omega)]
theorem rootTo_up {α : Type} {sub div : α → α → α} {root : α → α} {dot : List α → List α → α} {z : α} {p : Nat → Nat → α} {i j : Nat} (h : i < j) : ∀ m, rootTo sub div root dot z p m i j = z
  | 0 => rfl
  | m + 1 => by
    show rootStep _ _ _ _ _ _ m i j = _
    unfold rootStep
    rw [if_neg (by omega)]
    exact rootTo_up h m
theorem rootTo_row {α : Type} {sub div : α → α → α} {root : α → α} {dot : List α → List α → α} {z : α} {p : Nat → Nat → α} {i k n : Nat} (h : k ≤ n) : rowM k (rootTo sub div root dot z p k) i = rowM k (rootTo sub div root dot z p n) i :=
  rowM_congr fun j hj => (rootTo_stable hj n h).symm
/-- What stands in a root, by itself. -/
theorem rootTo_eq {α : Type} {sub div : α → α → α} {root : α → α} {dot : List α → List α → α} {z : α} {p : Nat → Nat → α} {n i k : Nat} (hk : k < n) (hi : k ≤ i) {s : Nat → Nat → α} (hs : s = rootTo sub div root dot z p n) :
    s i k = if i = k then root (sub (p k k) (dot (rowM k s k) (rowM k s k))) else div (sub (p i k) (dot (rowM k s i) (rowM k s k))) (s k k) := by
  have e : ∀ i, k ≤ i → s i k = if i = k then root (sub (p k k) (dot (rowM k s k) (rowM k s k))) else div (sub (p i k) (dot (rowM k s i) (rowM k s k))) (root (sub (p k k) (dot (rowM k s k) (rowM k s k)))) := fun i hi => by
    rw [show s i k = rootTo sub div root dot z p (k + 1) i k by rw [hs]; exact rootTo_stable (by omega) n (by omega)]
    show rootStep _ _ _ _ _ _ k i k = _
    unfold rootStep
    rw [if_pos ⟨rfl, hi⟩, rootTo_row (i := i) (show k ≤ n by omega), rootTo_row (i := k) (show k ≤ n by omega), ← hs]
  rw [e i hi]
  by_cases h : i = k
  · rw [if_pos h, if_pos h]
  · rw [if_neg h, if_neg h, e k (Nat.le_refl _), if_pos rfl]
/-- A dot whose second row ends at k. -/
theorem dotQ_low {s : Nat → Nat → Rat} {i k : Nat} (h : ∀ j, k < j → s k j = 0) : ∀ n, k < n → dotQ (rowM n s i) (rowM n s k) = dotQ (rowM k s i) (rowM k s k) + s i k * s k k
  | 0, hk => by omega
  | n + 1, hk => by
    rw [rowM_succ, rowM_succ, dotQ_snoc (by rw [rowM_len, rowM_len])]
    by_cases e : k = n
    · subst e; rfl
    · rw [dotQ_low h n (by omega), h n (by omega), Rat.mul_zero, Rat.add_zero]
theorem row_q (k : Nat) (s : Nat → Nat → Fr) (i : Nat) : (rowM k s i).map toQ = rowM k (fun i j => toQ (s i j)) i := by unfold rowM; rw [List.map_map]; rfl
theorem zip_mem {n : Nat} {s : Nat → Nat → Fr} {i k j : Nat} (hj : j < n) : mulR (s i j) (s k j) ∈ List.zipWith mulR (rowM n s i) (rowM n s k) := by
  refine List.mem_of_getElem? (i := j) ?_
  rw [List.getElem?_zipWith, rowM_get s i hj, rowM_get s k hj]
/-- The square of a root, where it may be one, is what it is the root of. -/
theorem root_square {n : Nat} {p s : Nat → Nat → Fr} {z : Fr} (hz : toQ z = 0) (hs : s = rootTo subR divR rootR dotF z p n) {i k : Nat} (hk : k < n) (hi : k ≤ i) (hf : fineR (dotF (rowM n s i) (rowM n s k)) = true) :
    dotF (rowM n s i) (rowM n s k) = p i k := by
  obtain ⟨hall, hq⟩ := dot_q hf
  have hup : ∀ j, k < j → toQ (s k j) = 0 := fun j hj => by rw [hs, rootTo_up hj n]; exact hz
  rw [row_q, row_q, dotQ_low (s := fun i j => toQ (s i j)) hup n hk] at hq
  have hm := mul_q (hall _ (zip_mem (i := i) (k := k) hk))
  have e := rootTo_eq hk hi hs
  have ek := rootTo_eq hk (Nat.le_refl k) hs
  rw [if_pos rfl] at ek
  by_cases h : i = k
  · subst h
    have hr := root_q (a := subR (p i i) (dotF (rowM i s i) (rowM i s i))) (by rw [← ek]; exact hm.1)
    rw [← ek] at hr
    obtain ⟨f1, f2, f3⟩ := sub_q hr.1
    refine fr_eq hf f1 ?_
    rw [hq, hr.2.1, f3, (dot_q f2).2, row_q, Rat.add_comm, Rat.sub_eq_add_neg, Rat.add_assoc, Rat.neg_add_cancel, Rat.add_zero]
  · rw [if_neg h] at e
    have hdv : fineR (divR (subR (p i k) (dotF (rowM k s i) (rowM k s k))) (s k k)) = true := by rw [← e]; exact hm.1
    have hmq := div_mul_q hdv
    rw [← e] at hmq
    obtain ⟨f1, f2, f3⟩ := sub_q (div_q hdv).1
    refine fr_eq hf f1 ?_
    rw [hq, hmq, f3, (dot_q f2).2, row_q, row_q, Rat.add_comm, Rat.sub_eq_add_neg, Rat.add_assoc, Rat.neg_add_cancel, Rat.add_zero]
end Go.Proofs.Ytbfdkahbnfpabaa

/- The square of the root of a square, of fractions, where no number is Bad (layer 7, TriRound). Mathematics alone. -/
namespace Go.Proofs.Ytbfdkahbnfpabaa
open Go.RowKit
set_option linter.unusedSimpArgs false
set_option linter.unusedVariables false

theorem add_fine7 (a b : Fr) : fineR (addR a b) = !(addR a b).bad := by
  unfold addR
  split
  · rw [ofQ_fine, ofQ_bad, Bool.not_not]
  · rfl
theorem fold_fine7 : ∀ (xs : List Fr) (a : Fr), fineR a = !a.bad → fineR (xs.foldl addR a) = !(xs.foldl addR a).bad
  | [], a, h => h
  | x :: xs, a, _ => fold_fine7 xs (addR a x) (add_fine7 a x)
theorem dot_fine7 (xs ys : List Fr) : fineR (dotF xs ys) = !(dotF xs ys).bad := fold_fine7 _ _ rfl
theorem mulT7 (n : Nat) (S : Nat → Nat → Fr) (i k : Nat) : mulMF n S (fun i k => S k i) i k = dotF (rowM n S i) (rowM n S k) := rfl
theorem round7 {n : Nat} {M : Nat → Nat → Fr} {i k : Nat} (hi : i < n) (hk : k < n)
    (h : (mirM (mulMF n (triT (rootVF (mirM M)) (wholeF 0) n n) (fun i k => triT (rootVF (mirM M)) (wholeF 0) n n k i)) i k).bad = false) :
    mirM (mulMF n (triT (rootVF (mirM M)) (wholeF 0) n n) (fun i k => triT (rootVF (mirM M)) (wholeF 0) n n k i)) i k = mirM M i k := by
  unfold mirM at h ⊢
  rw [mulT7] at h ⊢
  obtain ⟨a, ha⟩ : ∃ a, a = max i k := ⟨_, rfl⟩
  obtain ⟨b, hb⟩ : ∃ b, b = min i k := ⟨_, rfl⟩
  have h1 : b ≤ a := by omega
  have h2 : a < n := by omega
  rw [← ha, ← hb] at h ⊢
  obtain ⟨s, hs⟩ : ∃ s, s = rootTo subR divR rootR dotF (wholeF 0) (mirM M) n := ⟨_, rfl⟩
  have hr : ∀ i, i < n → rowM n (triT (rootVF (fun i k => M (max i k) (min i k))) (wholeF 0) n n) i = rowM n s i := fun i hi => rowM_congr7 fun j _ => by
    rw [rootVF_G, triT_root _ _ _ _ _ _ _ _ (Nat.le_refl _) _ _ hi, hs]
    rfl
  rw [hr a h2, hr b (by omega)] at h ⊢
  rw [root_square (z := wholeF 0) (show toQ (wholeF 0) = 0 from new0_q) hs (by omega) h1 (by rw [dot_fine7, h]; rfl)]
  unfold mirM
  rw [Nat.max_eq_left h1, Nat.min_eq_right h1]
end Go.Proofs.Ytbfdkahbnfpabaa

/- The walk of TriRound. Written by genTw.py. -/
namespace Go.Proofs.Ytbfdkahbnfpabaa
open Go.RowKit
set_option linter.unusedSimpArgs false
set_option linter.unusedVariables false

set_option maxRecDepth 100000 in
set_option maxHeartbeats 4000000 in
theorem walk_TriRound (va : Value) (xa : List Int) (n : Int) (w : World) (ha : Rq 1 cI w va xa) :
    Calls Try.prog 6 #[va, .int .i64 n] w fun e w' => e = .returned (.bool true) ∧ Bl w w' := by
  have AW := hideP awake7_any
  have F1 := hideP (sides_any va xa n w ha)
  obtain ⟨pa, ca, rfl, _, _⟩ := ha.cut
  obtain ⟨la, hla⟩ : ∃ la, la = xa.length := ⟨_, rfl⟩
  rw [← hla] at F1 ha ⊢
  have HA := hideP ha
  have HLA := hideP hla
  clear ha hla
  go_enter Try.func6, Try.ntmps6
  go_wp2_with fail
  refine F1.out.mono ?_
  rintro e w1 ⟨b1, rfl, hb1, rfl⟩
  clear F1
  cases b1 with
  | false =>
    go_wp2_with fail
    refine (AW.out _).mono ?_
    rintro e w9 ⟨rfl, h9⟩
    go_wp2
    go_ret
    exact ⟨rfl, (Bl.refl _).trans h9⟩
  | true =>
    obtain ⟨n1, n5, hl, s1⟩ := hb1 rfl
    clear hb1
    obtain ⟨m, rfl⟩ := Int.eq_ofNat_of_zero_le (show 0 ≤ n by omega)
    have hl2 : xa.length = m * m := by rw [← Int.natCast_mul] at hl; omega
    have hd : Dim m m := ⟨by omega, by omega, by omega, by omega⟩
    have hlam : la = m * m := by rw [HLA.out]; exact hl2
    have hfit : fitB m m la = true := fitB_dim hd hlam
    have WH := hideP (fun u (hu : Bl w1 u) => whole6_call m m pa la ca xa u (HA.out.later hu) hfit (by rw [← HLA.out]) s1)
    have SMA := hideP (ofL_sml hl2 s1)
    have HLM := hideP hlam
    have HL2 := hideP hl2
    have HD := hideP hd
    have S1 := hideP s1
    have m5 : m ≤ 5 := by omega
    have m1' : 1 ≤ m := by omega
    have hN25 : la ≤ 25 := by rw [hlam]; exact Nat.mul_le_mul m5 m5
    clear hl hl2 hd hlam hfit s1 n1 n5
    go_wp2_with fail
    refine (WH.out _ (Bl.refl _)).mono ?_
    rintro e w2 ⟨p1, c1, rfl, hx, h2⟩
    have HX := hideP hx
    clear hx WH
    have mx := MBox.new w2 m m p1 la c1 27
    obtain ⟨W2, hW2⟩ : ∃ W2, W2 = w2.alloc (.cells #[.int .i64 m, .int .i64 m, .slice p1 la c1] 27) := ⟨_, rfl⟩
    have b2 : Bl w2 W2 := by rw [hW2]; exact (Bl.refl _).alloc _
    rw [← hW2] at mx
    go_wp2_with fail
    rw [← hW2]
    have HW2 := hideP hW2
    clear hW2
    refine (tSqF m p1 la c1 _ W2 (HX.out.later b2)).mono ?_
    rintro e w3 ⟨p3, c3, rfl, ⟨hp, _⟩, h3⟩
    have HP := hideP hp
    clear hp
    have mp := MBox.new w3 m m p3 la c3 27
    obtain ⟨W3, hW3⟩ : ∃ W3, W3 = w3.alloc (.cells #[.int .i64 m, .int .i64 m, .slice p3 la c3] 27) := ⟨_, rfl⟩
    have b3 : Bl w3 W3 := by rw [hW3]; exact (Bl.refl _).alloc _
    rw [← hW3] at mp
    go_wp2_with fail
    rw [← hW3]
    have HW3 := hideP hW3
    clear hW3
    refine (tRootF m p3 la c3 _ W3 (HP.out.later b3)).mono ?_
    rintro e w4 ⟨p4, c4, rfl, ⟨hs, _⟩, h4⟩
    have HS := hideP hs
    clear hs
    have ms := MBox.new w4 m m p4 la c4 27
    obtain ⟨W4, hW4⟩ : ∃ W4, W4 = w4.alloc (.cells #[.int .i64 m, .int .i64 m, .slice p4 la c4] 27) := ⟨_, rfl⟩
    have b4 : Bl w4 W4 := by rw [hW4]; exact (Bl.refl _).alloc _
    rw [← hW4] at ms
    go_wp2_with fail
    rw [← hW4]
    have HW4 := hideP hW4
    clear hW4
    refine (tSqF m p4 la c4 _ W4 (HS.out.later b4)).mono ?_
    rintro e w5 ⟨p5, c5, rfl, ⟨hq, _⟩, h5⟩
    obtain ⟨P, hP⟩ : ∃ P, P = mirM (mulMF m (fun i k => itF (ofL m xa i k)) (fun i k => itF (ofL m xa k i))) := ⟨_, rfl⟩
    have hp := HP.out
    rw [show mirM (mulMF m (fun i k => itF (ofL m xa i k)) (fun i k => (fun i k => itF (ofL m xa i k)) k i)) = P from hP.symm] at hp hq
    obtain ⟨Q, hQ⟩ : ∃ Q, Q = mirM (mulMF m (triT (rootVF P) (wholeF 0) m m) (fun i k => triT (rootVF P) (wholeF 0) m m k i)) := ⟨_, rfl⟩
    rw [← hQ] at hq
    have hPQ : ∀ i k, i < m → k < m → (Q i k).bad = false → Q i k = P i k := fun i k hi hk hb => by
      rw [hQ, hP] at hb ⊢
      exact round7 hi hk hb
    have HP2 := hideP hp
    have HQ := hideP hq
    have HPQ := hideP hPQ
    clear hp hq hPQ hQ hP HP HS
    have mq := MBox.new w5 m m p5 la c5 27
    obtain ⟨W5, hW5⟩ : ∃ W5, W5 = w5.alloc (.cells #[.int .i64 m, .int .i64 m, .slice p5 la c5] 27) := ⟨_, rfl⟩
    have b5 : Bl w5 W5 := by rw [hW5]; exact (Bl.refl _).alloc _
    rw [← hW5] at mq
    have b3W : Bl w3 W5 := b3.trans (h4.trans (b4.trans (h5.trans b5)))
    have mpW := mp.later (h4.trans (b4.trans (h5.trans b5)))
    obtain ⟨g, o, hp5, _, hg, CQ⟩ := HQ.out.cells
    subst hp5
    have HCQ := hideP CQ
    clear CQ
    obtain ⟨q0, q1, q2, _, _, _, ltq⟩ := id mq
    rw [hW5] at q0 q1 q2
    go_wp2_with fail
    rw [← hW5]
    have HW5 := hideP hW5
    clear hW5 q0 q1 q2
    go_loopw [55] (fun v wr => ∃ j : Nat, v = .int .i64 j ∧ j ≤ la ∧ Bl W5 wr ∧ ∀ i k, i < m → k < m → i * m + k < j → (Q i k).bad = false) (fun v _ => la - (intOf v).toNat)
    case atStart => exact ⟨0, rfl, Nat.zero_le _, Bl.refl _, fun i k _ _ h => by omega⟩
    case round =>
      obtain ⟨j, rfl, hj, bl, hbj⟩ := hrel
      have HBJ := hideP hbj
      clear hbj
      by_cases hlt : j < la
      · obtain ⟨i, k, hi, hk, hijk⟩ : ∃ i k, i < m ∧ k < m ∧ i * m + k = j := by
          refine ⟨j / m, j % m, ?_, Nat.mod_lt _ (by omega), ?_⟩
          · rw [Nat.div_lt_iff_lt_mul (by omega)]; rw [← HLM.out]; exact hlt
          · rw [Nat.mul_comm]; exact Nat.div_add_mod j m
        have CX := fun t u hu => (bl_cell (show Bl w5 wr from b5.trans bl) _ _ hg).trans (HCQ.out i k hi hk t u hu)
        rw [hijk] at CX
        obtain ⟨y, hy⟩ : ∃ y, y = Q i k := ⟨_, rfl⟩
        rw [← hy] at CX
        have x0 : wr.cell? ⟨g, o + j * 3, none⟩ = some (.int .i64 y.n) := by simpa using CX 0 _ rfl
        have x1 : wr.cell? ⟨g, o + j * 3 + 1, none⟩ = some (.int .i64 y.d) := by simpa using CX 1 _ rfl
        have x2 : wr.cell? ⟨g, o + j * 3 + 2, none⟩ = some (.bool y.bad) := by simpa using CX 2 _ rfl
        have HY := hideP hy
        have HIJ := hideP hijk
        clear CX hy hijk
        obtain ⟨X, hX⟩ : ∃ X, X = wr.alloc (.cells #[.int .i64 y.n, .int .i64 y.d, .bool y.bad] 31) := ⟨_, rfl⟩
        have bX : Bl wr X := by rw [hX]; exact (Bl.refl _).alloc _
        cases hby : y.bad with
        | true =>
          rw [hby] at x2 hX
          go_wp2_with fail
          rw [← hX]
          refine (AW.out _).mono ?_
          rintro e w9 ⟨rfl, h9⟩
          go_wp2
          go_ret
          exact ⟨rfl, ((((h2.trans b2).trans h3).trans b3W).trans bl).trans (bX.trans h9)⟩
        | false =>
          rw [hby] at x2 hX
          go_wp2
          rw [← hX]
          go_roundw
          case rel =>
            refine ⟨j + 1, by simp, hlt, bl.trans bX, fun i' k' hi' hk' h' => ?_⟩
            by_cases hh : i' * m + k' < j
            · exact HBJ.out i' k' hi' hk' hh
            · obtain ⟨rfl, rfl⟩ := idx_inj7 hk' hk (show i' * m + k' = i * m + k by have := HIJ.out; omega)
              rw [← HY.out]; exact hby
          case measure => simp [intOf]; omega
      · obtain rfl : j = la := by omega
        have hq : Mx 3 cellsF w5 m m (some ⟨g, o, none⟩) j c5 P := HQ.out.congr fun i k hi hk => HPQ.out i k hi hk (HBJ.out i k hi hk (by rw [HLM.out]; exact mk_idx hi hk))
        obtain ⟨x0, x1, x2, _, _, _, lt1⟩ := mpW.later bl
        obtain ⟨y0, y1, y2, _, _, _, lt2⟩ := mq.later bl
        go_wp2_with fail
        refine (alike_any m m p3 (some ⟨g, o, none⟩) j c3 c5 (mk m m P) wr (HP2.out.later (b3W.trans bl)).2.2 (hq.later (b5.trans bl)).2.2 (by rw [mk_len, HLM.out]) (by omega)).mono ?_
        rintro e w8 ⟨rfl, h8⟩
        clear x0 x1 x2 y0 y1 y2
        go_wp2_with fail
        refine (AW.out _).mono ?_
        rintro e w9 ⟨rfl, h9⟩
        go_wp2
        go_ret
        exact ⟨rfl, ((((h2.trans b2).trans h3).trans b3W).trans bl).trans (h8.trans h9)⟩
end Go.Proofs.Ytbfdkahbnfpabaa

/- A slice of whole numbers as an argument: opened. -/
namespace Go.Proofs.Ytbfdkahbnfpabaa
open Go.ChangeShapes Go.WideShapes Go.ChangeAt Go.RowKit
set_option linter.unusedVariables false

theorem Try.cellsInt : Try.prog.cellsOf 3 = 1 := by kernel_rfl
theorem cell_block_lt {W : World} {b o : Nat} {v : Value} (h : W.cell? ⟨b, o, none⟩ = some v) : b < W.heap.size := by
  rcases Nat.lt_or_ge b W.heap.size with h' | h'
  · exact h'
  · have : W.heap[b]? = none := Array.getElem?_eq_none h'
    simp [World.cell?, this] at h
set_option maxRecDepth 1000000 in
theorem open_row {H : Type} {enc : TypeId × Value → H} {W : World} {b0 : Nat} {v : Value} {d : DataW H} {p : List MemPlace}
    (hv : Value.okWide Try.prog W .any b0 22 v) (h : DataW.Trod enc Try.prog W 0 (fun _ => true) true 22 v d p) : ∃ ns : List Int, Rq 1 cI W v ns ∧ ∀ n ∈ ns, (Lit.int .i64 n).wf = true := by
  obtain ⟨a0, len, cap, rfl⟩ := okWide_slice Try.underlying22 hv
  obtain ⟨fuel, hf⟩ := h
  rcases open_ints Try.underlying22 Try.underlying3 Try.cellsInt hf with ⟨hcs, hx⟩ | ⟨a, len', cap', zs, hcs, _, hl, hm, hz, hx, hcell, hwz⟩
  · simp [Value.cells] at hcs
    obtain ⟨rfl, rfl, rfl⟩ := hcs
    exact ⟨[], .inl ⟨none, 0, rfl, rfl, fun _ => rfl⟩, fun n hn => by simp at hn⟩
  · simp [Value.cells] at hcs
    obtain ⟨rfl, rfl, rfl⟩ := hcs
    simp only [if_true] at hz
    refine ⟨zs.take len, ?_, fun n hn => hwz n (List.mem_of_mem_take hn)⟩
    by_cases h0 : len = 0
    · subst h0
      exact .inl ⟨some a, cap, rfl, by simp, nofun⟩
    · have c0 := hcell 0 (by omega)
      obtain ⟨b, off, rfl, hc⟩ := ints_at hcell (by omega)
      have hb : b < W.heap.size := by
        have := hc 0 (by omega)
        exact cell_block_lt this
      have hll : (zs.take len).length = len := by simp; omega
      refine .inr ⟨b, off, cap, by rw [hll], by omega, hb, fun j x hj k u hu => ?_⟩
      rcases k with _ | k
      · simp at hu
        subst hu
        have hj2 := (List.getElem?_eq_some_iff.1 hj).1
        have := hc j (by omega)
        rw [List.getElem?_take] at hj
        split at hj
        · have e : zs.getD j 0 = x := by simp [List.getD, hj]
          rw [e] at this
          simpa using this
        · cases hj
      · simp at hu
end Go.Proofs.Ytbfdkahbnfpabaa

/- TriRound: the root of what was squared, squared again, is the square, in fractions, where all roots are (of 5 by 5 at most, numbers from -100 up to 100). Conditions: none (every input). -/
namespace Go.Proofs.Ytbfdkahbnfpabaa
open Go.ChangeShapes Go.WideShapes Go.ChangeAt Go.RowKit
set_option linter.unusedVariables false

theorem own_TriRound : ownKnob Try.prog.godebug = none := by kernel_rfl
theorem laid_TriRound : laidOutB Try.prog = true := by kernel_rfl
set_option maxRecDepth 100000 in
theorem lifted_TriRound (os : Os) (started : os.Started) (H : Type) (enc : TypeId × Value → H) :
    ReturnsInHanded {} Try.checked os 6 .any (Rows.triRoundSpec.pre6 enc Try.prog Try.f6 Rows.triRoundRow.domain false) (Rows.triRoundSpec.post enc Try.prog Try.f6 false true false false) := by
  refine returnsInHanded_of_change (C := Try.checked) own_TriRound started (by kernel_rfl) Try.func6
    (ChangeSpec.witness6 (enc := enc) (C := Try.checked) false ⟨#[], #[.slice none 0 0, .int .i64 0], []⟩ 8 (by kernel_rfl) (by kernel_rfl) (by kernel_rfl) (by kernel_rfl)) ?_
  intro W base args ds gs before hval0 hW hcnd _
  have hval : ∀ (j : Nat) t v, Try.f6.params[j]? = some t → args[j]? = some v → Value.okWide Try.prog W .any base t v := hval0
  have hW' := hW
  obtain ⟨p, q, hA0, hV, rfl, hfz, hnd⟩ := hW
  have hA : DataW.TrodAll enc Try.prog W 0 (fun _ => true) true Try.f6.params.toList args.toList ds p := hA0
  rw [Try.params6] at hA hval
  obtain ⟨v0, vs0, d0, ds0, p0, q0, hargs, rfl, rfl, h0, r0⟩ := trodAll_cons hA
  obtain ⟨v1, vs1, d1, ds1, p1, q1, rfl, rfl, rfl, h1, r1⟩ := trodAll_cons r0
  obtain ⟨rfl, rfl, rfl⟩ := trodAll_nil r1
  obtain rfl : args = #[v0, v1] := by cases args; simp_all
  obtain ⟨rfl, rfl⟩ := trodVars_none hV
  have hltA := fun x hx => hW'.lt x hx
  obtain ⟨a0, R0, w0⟩ := open_row (hval 0 22 v0 rfl rfl) h0
  obtain ⟨a1, e1, _, _, w1⟩ := open_int Try.underlying3 (hval 1 3 v1 rfl rfl) h1
  subst e1
  clear hA0 hval0
  refine (walk_TriRound v0 a0 a1 W R0).mono fun e W' ⟨he, bel⟩ => ?_
  subst he
  exact ⟨_, rfl, _, _, _, [], _, [], hW', trodAll_mk1 (shut_bool Try.underlying4 _), (trodAll_cons_mk (Below.trod laid_TriRound (by kernel_rfl) (of_decide_eq_true (by kernel_rfl)) h0 bel (fun x hx => by have := hltA x (by simp [hx]); simpa using this)) (trodAll_cons_mk (Below.trod laid_TriRound (by kernel_rfl) (of_decide_eq_true (by kernel_rfl)) h1 bel (fun x hx => by have := hltA x (by simp [hx]); simpa using this)) trodAll_mk0)), rfl, Below.frame bel _, fun h => by cases h⟩

theorem proved_TriRound : Rows.TriRoundSaid :=
  OpenClaim.holds_of_wide 6 Try.f6 rfl rfl rfl rfl rfl rfl rfl ⟨rfl, rfl, rfl, rfl, rfl⟩ rfl rfl rfl rfl rfl (by kernel_rfl) Try.func6 (by kernel_rfl)
    (of_decide_eq_true (by kernel_rfl)) (by unfold Func.isWrapper; first | (rw [if_pos (by decide +kernel)]; kernel_rfl) | (rw [if_neg (by decide +kernel)]; exact ⟨rfl, rfl⟩))
    (fun os started H enc _ => lifted_TriRound os started H enc)
#print axioms proved_TriRound
end Go.Proofs.Ytbfdkahbnfpabaa
