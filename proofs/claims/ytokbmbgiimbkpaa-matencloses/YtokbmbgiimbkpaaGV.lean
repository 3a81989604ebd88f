/- MatEncloses: the product of enclosed whole numbers encloses the whole numbers' (of 256 numbers from -100 up to 100). Conditions: none (every input). -/
import Derived.Test.YtokbmbgiimbkpaaEn6
import Derived.Test.YtokbmbgiimbkpaaGW
import Derived.Test.YtokbmbgiimbkpaaGN
import Derived.Test.YtokbmbgiimbkpaaEn5
import Derived.Test.YtokbmbgiimbkpaaHN
import Derived.ProofKit
import Derived.OpenShut
import Derived.Carry
/- The mathematics of the laws of layer 3. -/
namespace Go.Proofs.Ytokbmbgiimbkpaa
open Go.RowKit
set_option linter.unusedSimpArgs false
set_option linter.unusedVariables false

theorem low2 {N : Int → Int → Int → Int} (hN : Bd N) (x y : Int) : lowF N [(x, y), (x, y)] = N x y 1 := by
  have := hN x y 1
  simp only [lowF, List.foldl_cons, List.foldl_nil]; omega
theorem high2 {N : Int → Int → Int → Int} (hN : Bd N) (x y : Int) : highF N [(x, y), (x, y)] = N x y 2 := by
  have := hN x y 2
  simp only [highF, List.foldl_cons, List.foldl_nil]; omega
theorem low4 {N : Int → Int → Int → Int} (hN : Bd N) (x y : Int) : lowF N [(x, y), (x, y), (x, y), (x, y)] = N x y 1 := by
  have := hN x y 1
  simp only [lowF, List.foldl_cons, List.foldl_nil]; omega
theorem high4 {N : Int → Int → Int → Int} (hN : Bd N) (x y : Int) : highF N [(x, y), (x, y), (x, y), (x, y)] = N x y 2 := by
  have := hN x y 2
  simp only [highF, List.foldl_cons, List.foldl_nil]; omega
/-- A list of one pair, twice or four times. -/
def Same (ps : List (Int × Int)) (x y : Int) : Prop := ps = [(x, y), (x, y)] ∨ ps = [(x, y), (x, y), (x, y), (x, y)]
theorem Same.low {ps : List (Int × Int)} {x y : Int} (h : Same ps x y) {N : Int → Int → Int → Int} (hN : Bd N) : lowF N ps = N x y 1 := by
  rcases h with rfl | rfl
  · exact low2 hN x y
  · exact low4 hN x y
theorem Same.high {ps : List (Int × Int)} {x y : Int} (h : Same ps x y) {N : Int → Int → Int → Int} (hN : Bd N) : highF N ps = N x y 2 := by
  rcases h with rfl | rfl
  · exact high2 hN x y
  · exact high4 hN x y
theorem Same.ok {ps : List (Int × Int)} {x y : Int} (h : Same ps x y) (B : Int → Int → Int → Bool) : okF B ps = (B x y 1 && B x y 2) := by
  rcases h with rfl | rfl <;> simp [okF]

theorem told_nofine {N : Int → Int → Int → Int} {B : Int → Int → Int → Bool} {a b : En} {ps : List (Int × Int)} (h : fineB a = false ∨ fineB b = false) : toldE N B a b ps = wrongE := by
  apply told_bad
  unfold okE
  rcases h with h | h <;> simp [h]
theorem okE_iff {B : Int → Int → Int → Bool} {a b : En} {ps : List (Int × Int)} : okE B a b ps = true ↔ B a.v b.v 0 = true ∧ fineB a = true ∧ fineB b = true ∧ okF B ps = true := by
  unfold okE; simp [Bool.and_eq_true, and_assoc]
theorem wrong_nofine : fineB wrongE = false := rfl
theorem pt_true (n : Int) : ptE n true = ⟨n, n, n, false⟩ := rfl
theorem pt_false (n : Int) : ptE n false = wrongE := rfl
theorem pt_fine {n : Int} (h : frB n = true) : fineB ⟨n, n, n, false⟩ = true := fineB_iff.2 ⟨rfl, Int.le_refl _, Int.le_refl _, h, h⟩

/-- Bad, or as wide at most. -/
def Wd (x : En) (most : Int) : Prop := x.bad = true ∨ (-4611686018427387904 ≤ x.h - x.l ∧ x.h - x.l ≤ most)
theorem wd_wrong (k : Int) : Wd wrongE k := .inl rfl
theorem wd_told {N : Int → Int → Int → Int} {B : Int → Int → Int → Bool} {a b : En} {ps : List (Int × Int)} {most : Int} (hs : Same ps a.v b.v) (hN : Bd N)
    (ho : B a.v b.v 1 = true → B a.v b.v 0 = true → B a.v b.v 2 = true → N a.v b.v 2 ≤ N a.v b.v 1 + most) : Wd (toldE N B a b ps) most := by
  cases h : okE B a b ps
  · rw [told_bad h]; exact wd_wrong _
  · rw [told_ok h]
    obtain ⟨h0, _, _, hk⟩ := okE_iff.1 h
    rw [hs.ok, Bool.and_eq_true] at hk
    have := ho hk.1 h0 hk.2
    refine .inr ?_
    show _ ≤ highF N ps - lowF N ps ∧ highF N ps - lowF N ps ≤ most
    rw [hs.low hN, hs.high hN]
    have := hN a.v b.v 1
    have := hN a.v b.v 2
    omega
theorem wd_pt2 {N : Int → Int → Int → Int} {B : Int → Int → Int → Bool} {f : En → En → List (Int × Int)} {most : Int} (n m : Int) (p q : Bool) (hs : Same (f ⟨n, n, n, false⟩ ⟨m, m, m, false⟩) n m) (hN : Bd N)
    (ho : B n m 1 = true → B n m 0 = true → B n m 2 = true → N n m 2 ≤ N n m 1 + most) : Wd (toldE N B (ptE n p) (ptE m q) (f (ptE n p) (ptE m q))) most := by
  cases p
  · rw [pt_false, told_nofine (.inl wrong_nofine)]; exact wd_wrong _
  · cases q
    · rw [pt_false, told_nofine (.inr wrong_nofine)]; exact wd_wrong _
    · exact wd_told hs hN ho
theorem same_prs2 (n m : Int) : Same (prs2 ⟨n, n, n, false⟩ ⟨m, m, m, false⟩) n m := .inl rfl
theorem same_prsX (n m : Int) : Same (prsX ⟨n, n, n, false⟩ ⟨m, m, m, false⟩) n m := .inl rfl
theorem same_prs4 (n m : Int) : Same (prs4 ⟨n, n, n, false⟩ ⟨m, m, m, false⟩) n m := .inr rfl
theorem wd_add (n m : Int) (p q : Bool) : Wd (addE (ptE n p) (ptE m q)) 0 := wd_pt2 n m p q (same_prs2 n m) bdA fun _ _ _ => by unfold nA; omega
theorem wd_sub (n m : Int) (p q : Bool) : Wd (subE (ptE n p) (ptE m q)) 0 := wd_pt2 n m p q (same_prsX n m) bdS fun _ _ _ => by unfold nS; omega
theorem wd_neg (n : Int) (p : Bool) : Wd (negE (ptE n p)) 0 := wd_sub 0 n true p
theorem wd_mul (n m : Int) (p q : Bool) : Wd (mulE (ptE n p) (ptE m q)) 1 := wd_pt2 n m p q (same_prs4 n m) bdM fun h1 h0 h2 => (fm_order n m h1 h0 h2).2.2
theorem wd_div (n m : Int) (p q : Bool) : Wd (divE (ptE n p) (ptE m q)) 1 := by
  unfold divE
  split
  · exact wd_wrong _
  · exact wd_pt2 n m p q (same_prs4 n m) bdD fun h1 h0 h2 => (fd_order n m h1 h0 h2).2.2
theorem wd_root (n : Int) (p : Bool) : Wd (rootE (ptE n p)) 1 := by
  cases p
  · unfold rootE; rw [pt_false, told_nofine (.inl wrong_nofine)]; exact wd_wrong _
  · exact wd_told (same_prs2 n n) bdQ fun h1 h0 h2 => (fq_order n h1 h0 h2).2.2

/-- What is told is Bad, or Fine. -/
def FineOr (x : En) : Prop := x = wrongE ∨ (x.bad = false ∧ fineB x = true)
theorem fine_told {N : Int → Int → Int → Int} {B : Int → Int → Int → Bool} {a b : En} {ps : List (Int × Int)} (hN : Bd N)
    (hH : fineB a = true → fineB b = true → okF B ps = true → Hold N B ps a.v b.v) : FineOr (toldE N B a b ps) := by
  cases h : okE B a b ps
  · exact .inl (told_bad h)
  · rw [told_ok h]
    obtain ⟨h0, ha, hb, hk⟩ := okE_iff.1 h
    have H := hH ha hb hk
    have l := low_bd hN ps
    have u := high_bd hN ps
    have h1 := H.low
    have h2 := H.down
    have h3 := H.up
    have h4 := H.high
    exact .inr ⟨rfl, fineB_iff.2 ⟨rfl, Int.le_trans h1 h2, Int.le_trans h3 h4, frB_eq l, frB_eq u⟩⟩
theorem fine_add (a b : En) : FineOr (addE a b) := fine_told bdA fun ha hb hk => hold_add ha hb hk (in_v ha) (in_v hb)
theorem fine_sub (a b : En) : FineOr (subE a b) := fine_told bdS fun ha hb hk => hold_sub ha hb hk (in_v ha) (in_v hb)
theorem fineE_neg (a : En) : FineOr (negE a) := fine_sub _ a
theorem fine_mul (a b : En) : FineOr (mulE a b) := fine_told bdM fun ha hb hk => hold_mul ha hb hk (in_v ha) (in_v hb)
theorem fine_div (a b : En) : FineOr (divE a b) := by
  unfold divE
  cases hz : zeroB b
  · exact fine_told bdD fun ha hb hk => hold_div ha hb hz hk (in_v ha) (in_v hb)
  · exact .inl rfl
theorem fine_root (a : En) : FineOr (rootE a) := fine_told bdQ fun ha _ hk => hold_root ha hk (in_v ha)
theorem bad_nofine {a : En} (h : a.bad = true) : fineB a = false := by unfold fineB; rw [h]; rfl
theorem bad_add {a : En} (b : En) (h : a.bad = true) : addE a b = wrongE := told_nofine (.inl (bad_nofine h))
theorem bad_mul {a : En} (b : En) (h : a.bad = true) : mulE b a = wrongE := told_nofine (.inr (bad_nofine h))
theorem bad_root {a : En} (h : a.bad = true) : rootE a = wrongE := told_nofine (.inl (bad_nofine h))

/-- out is Bad, or it holds what 'inn' holds. -/
def With (inn out : En) : Prop := out.bad = true ∨ (inn.bad = false ∧ out.l ≤ inn.l ∧ inn.h ≤ out.h)
theorem with_told {N : Int → Int → Int → Int} {B : Int → Int → Int → Bool} {a b : En} {ps qs : List (Int × Int)} {x y : Int} (hN : Bd N) (hx : frB x = true) (hy : frB y = true) (hs : Same qs x y)
    (hH : fineB a = true → fineB b = true → okF B ps = true → Hold N B ps x y) : With (toldE N B ⟨x, x, x, false⟩ ⟨y, y, y, false⟩ qs) (toldE N B a b ps) := by
  cases h : okE B a b ps
  · rw [told_bad h]; exact .inl rfl
  · obtain ⟨h0, ha, hb, hk⟩ := okE_iff.1 h
    have H := hH ha hb hk
    have hq : okE B ⟨x, x, x, false⟩ ⟨y, y, y, false⟩ qs = true := okE_iff.2 ⟨H.told 0 (.inl rfl), pt_fine hx, pt_fine hy, by rw [hs.ok, H.told 1 (.inr (.inl rfl)), H.told 2 (.inr (.inr rfl))]; rfl⟩
    rw [told_ok h, told_ok hq]
    refine .inr ⟨rfl, ?_, ?_⟩
    · show lowF N ps ≤ lowF N qs
      rw [hs.low hN]; exact H.low
    · show highF N qs ≤ highF N ps
      rw [hs.high hN]; exact H.high
theorem with_add {a b : En} {x y : Int} (ha : fineB a = true) (hb : fineB b = true) (hx : inB a x) (hy : inB b y) : With (addE (ptE x true) (ptE y true)) (addE a b) :=
  with_told bdA (in_fr ha hx) (in_fr hb hy) (same_prs2 x y) fun ha hb hk => hold_add ha hb hk hx hy
theorem with_sub {a b : En} {x y : Int} (ha : fineB a = true) (hb : fineB b = true) (hx : inB a x) (hy : inB b y) : With (subE (ptE x true) (ptE y true)) (subE a b) :=
  with_told bdS (in_fr ha hx) (in_fr hb hy) (same_prsX x y) fun ha hb hk => hold_sub ha hb hk hx hy
theorem with_mul {a b : En} {x y : Int} (ha : fineB a = true) (hb : fineB b = true) (hx : inB a x) (hy : inB b y) : With (mulE (ptE x true) (ptE y true)) (mulE a b) :=
  with_told bdM (in_fr ha hx) (in_fr hb hy) (same_prs4 x y) fun ha hb hk => hold_mul ha hb hk hx hy
theorem with_div {a b : En} {x y : Int} (ha : fineB a = true) (hb : fineB b = true) (hx : inB a x) (hy : inB b y) : With (divE (ptE x true) (ptE y true)) (divE a b) := by
  unfold divE
  cases hz : zeroB b
  · have hz' : zeroB (ptE y true) = false := by
      unfold zeroB at hz ⊢
      unfold inB at hy
      rw [Bool.and_eq_false_iff] at hz ⊢
      rcases hz with h | h
      · left; have := of_decide_eq_false h; exact decide_eq_false (show ¬ y ≤ 0 by omega)
      · right; have := of_decide_eq_false h; exact decide_eq_false (show ¬ 0 ≤ y by omega)
    rw [hz']
    exact with_told bdD (in_fr ha hx) (in_fr hb hy) (same_prs4 x y) fun ha hb hk => hold_div ha hb hz hk hx hy
  · exact .inl rfl
theorem with_root {a : En} {x : Int} (ha : fineB a = true) (hx : inB a x) : With (rootE (ptE x true)) (rootE a) :=
  with_told bdQ (in_fr ha hx) (in_fr ha hx) (same_prs2 x x) fun ha _ hk => hold_root ha hk hx
theorem with_neg {a : En} {x : Int} (ha : fineB a = true) (hx : inB a x) : With (negE (ptE x true)) (negE a) :=
  with_sub (pt_fine (by decide)) ha ⟨Int.le_refl _, Int.le_refl _⟩ hx

theorem fa_comm (a b : Int) : faN a b = faN b a ∧ faB a b = faB b a := by
  have h : faB a b = faB b a := by unfold faB; rw [allB2, allB2, Int.add_comm, Bool.and_comm (frB a)]
  exact ⟨by unfold faN; rw [h, Int.add_comm], h⟩
theorem md_comm (a b c m : Int) : mdN a b c m = mdN b a c m ∧ mdB a b c m = mdB b a c m := by
  have hbel : belB a b c = belB b a c := by unfold belB; rw [Int.mul_comm a b]
  have hg : mdG a b c m = mdG b a c m := by unfold mdG; rw [Bool.and_comm (rightB a)]
  have hC : mdC a b c m = mdC b a c m := by unfold mdC; rw [Int.mul_comm (szI a), hbel]
  constructor
  · unfold mdN; rw [hg, hC, hbel]
  · unfold mdB; rw [hg, hC]
theorem fm_comm (a b m : Int) : fmN a b m = fmN b a m ∧ fmB a b m = fmB b a m := by
  have e := md_comm a b 16777216 m
  have h : fmB a b m = fmB b a m := by unfold fmB; rw [e.1, e.2, allB2, allB2, Bool.and_comm (frB a)]
  exact ⟨by unfold fmN; rw [h, e.1], h⟩
theorem ok_comm {B : Int → Int → Int → Bool} {a b : En} {ps qs : List (Int × Int)} (h : B a.v b.v 0 = B b.v a.v 0) (hk : okF B ps = okF B qs) : okE B a b ps = okE B b a qs := by
  unfold okE
  rw [h, hk]
  cases B b.v a.v 0 <;> cases fineB a <;> cases fineB b <;> rfl
theorem add_comm' (a b : En) : addE b a = addE a b := by
  unfold addE toldE
  have e : ∀ x y m, nA x y m = nA y x m := fun x y _ => (fa_comm x y).1
  have k : ∀ x y m, bA x y m = bA y x m := fun x y _ => (fa_comm x y).2
  have hl : lowF nA (prs2 b a) = lowF nA (prs2 a b) := by simp only [lowF, prs2, List.foldl_cons, List.foldl_nil, e b.l, e b.h]
  have hh : highF nA (prs2 b a) = highF nA (prs2 a b) := by simp only [highF, prs2, List.foldl_cons, List.foldl_nil, e b.l, e b.h]
  have ho : okE bA b a (prs2 b a) = okE bA a b (prs2 a b) := ok_comm (k _ _ _) (by simp only [okF, prs2, List.all_cons, List.all_nil, k b.l, k b.h])
  rw [ho, hl, hh, e b.v]
theorem mul_comm' (a b : En) : mulE b a = mulE a b := by
  unfold mulE toldE
  have e : ∀ x y m, fmN x y m = fmN y x m := fun x y m => (fm_comm x y m).1
  have k : ∀ x y m, fmB x y m = fmB y x m := fun x y m => (fm_comm x y m).2
  have hl : lowF fmN (prs4 b a) = lowF fmN (prs4 a b) := by
    simp only [lowF, prs4, List.foldl_cons, List.foldl_nil, e b.l, e b.h]; omega
  have hh : highF fmN (prs4 b a) = highF fmN (prs4 a b) := by
    simp only [highF, prs4, List.foldl_cons, List.foldl_nil, e b.l, e b.h]; omega
  have ho : okE fmB b a (prs4 b a) = okE fmB a b (prs4 a b) := ok_comm (k _ _ _) (by
    simp only [okF, prs4, List.all_cons, List.all_nil, k b.l, k b.h, Bool.and_true]
    ac_rfl)
  rw [ho, hl, hh, e b.v]
/-- What is taken off itself encloses 0. -/
theorem self_encl (a : En) : (subE a a).bad = true ∨ enclB (subE a a) 0 1 = true := by
  rcases fine_sub a a with h | ⟨h, hf⟩
  · left; rw [h]; rfl
  · right
    have hk : okE bS a a (prsX a a) = true := by
      cases k : okE bS a a (prsX a a)
      · have : subE a a = wrongE := told_bad k
        rw [this] at h; cases h
      · rfl
    obtain ⟨h0, ha, _, hk2⟩ := okE_iff.1 hk
    have H := hold_sub ha ha hk2 (in_v ha) (in_v ha)
    have v := (fs_val (show fsB a.v a.v = true from h0)).1
    have e : subE a a = ⟨nS a.v a.v 0, lowF nS (prsX a a), highF nS (prsX a a), false⟩ := told_ok hk
    have h1 : lowF nS (prsX a a) ≤ fsN a.v a.v := H.low
    have h2 : fsN a.v a.v ≤ highF nS (prsX a a) := H.high
    rw [v] at h1 h2
    unfold enclB withinB
    rw [hf, e]
    generalize lowF nS (prsX a a) = lo at *
    generalize highF nS (prsX a a) = hi at *
    have d1 : decide (lo * 1 ≤ 0 * 16777216) = true := decide_eq_true (by omega)
    have d2 : decide (0 * 16777216 ≤ hi * 1) = true := decide_eq_true (by omega)
    simp only [d1, d2]
    rfl
theorem self_meet {a : En} (h : fineB a = true) : meetB a a = true := by
  obtain ⟨h1, h2, h3, _, _⟩ := fineB_iff.1 h
  unfold meetB
  rw [h1, decide_eq_true (by omega)]; rfl
end Go.Proofs.Ytokbmbgiimbkpaa

/- Whole numbers as points: their sums, products and dots, enclosed (layer 5's laws). Mathematics alone. -/
namespace Go.Proofs.Ytokbmbgiimbkpaa
open Go.RowKit
set_option linter.unusedSimpArgs false
set_option linter.unusedVariables false

/-- The point of a whole number. -/
def itN (n : Int) : En := ⟨n * 16777216, n * 16777216, n * 16777216, false⟩
/-- It may be one. -/
def Wn (n : Int) : Prop := -67108864 ≤ n ∧ n ≤ 67108864
theorem fr_it {n : Int} (h : Wn n) : frB (n * 16777216) = true := frB_eq (by unfold Wn at h; omega)
theorem fineN_it {n : Int} (h : Wn n) : fineB (itN n) = true := pt_fine (fr_it h)
theorem ofN_it {n : Int} (h : Wn n) : ptE (foN n) (foB n) = itN n := by
  have h1 : foB n = true := by unfold foB; unfold Wn at h; simp; omega
  rw [h1]
  unfold foN
  rw [h1]
  rfl
theorem addN_it {a b : Int} (ha : Wn a) (hb : Wn b) (h : Wn (a + b)) : addE (itN a) (itN b) = itN (a + b) := by
  have e : a * 16777216 + b * 16777216 = (a + b) * 16777216 := by omega
  have t := fa_told (fr_it ha) (fr_it hb) (by rw [e]; exact fr_it h)
  have ok : okE bA (itN a) (itN b) (prs2 (itN a) (itN b)) = true := okE_iff.2 ⟨t.1, fineN_it ha, fineN_it hb, by rw [show prs2 (itN a) (itN b) = prs2 ⟨a * 16777216, a * 16777216, a * 16777216, false⟩ ⟨b * 16777216, b * 16777216, b * 16777216, false⟩ from rfl, (same_prs2 _ _).ok]; unfold bA; rw [t.1]; rfl⟩
  have e1 := told_ok (N := nA) ok
  unfold addE
  rw [e1]
  have hs : Same (prs2 (itN a) (itN b)) (a * 16777216) (b * 16777216) := same_prs2 _ _
  rw [hs.low bdA, hs.high bdA]
  have hn : ∀ m, nA (a * 16777216) (b * 16777216) m = (a + b) * 16777216 := fun m => by show faN _ _ = _; rw [t.2, e]
  show (⟨nA (a * 16777216) (b * 16777216) 0, _, _, false⟩ : En) = _
  rw [hn, hn, hn]
  rfl
theorem rnd_it (x c m : Int) (hc : 0 < c) : rnd (x * c) c m = x := by
  unfold rnd
  have h1 : x * c / c = x := Int.mul_ediv_cancel _ (by omega)
  have h2 : -(-(x * c) / c) = x := by rw [← Int.neg_mul, Int.mul_ediv_cancel _ (by omega), Int.neg_neg]
  split
  · exact h1
  · split
    · exact h2
    · unfold evn
      have h3 : x * c % c = 0 := Int.mul_emod_left x c
      rw [h1, h3]
      simp
      omega
theorem mulN_it {a b : Int} (ha : Wn a) (hb : Wn b) (h : Wn (a * b)) : mulE (itN a) (itN b) = itN (a * b) := by
  have ex : a * 16777216 * (b * 16777216) = a * b * 16777216 * 16777216 := by rw [← Int.mul_assoc, Int.mul_right_comm a 16777216 b]
  have t : ∀ m, MD m → fmB (a * 16777216) (b * 16777216) m = true ∧ fmN (a * 16777216) (b * 16777216) m = a * b * 16777216 := fun m hm => by
    have := fm_told (fr_it ha) (fr_it hb) hm (by rw [ex, rnd_it _ _ _ (by decide)]; exact fr_it h)
    rw [ex, rnd_it _ _ _ (by decide)] at this
    exact this
  have hs : Same (prs4 (itN a) (itN b)) (a * 16777216) (b * 16777216) := same_prs4 _ _
  have ok : okE fmB (itN a) (itN b) (prs4 (itN a) (itN b)) = true := okE_iff.2 ⟨(t 0 (.inl rfl)).1, fineN_it ha, fineN_it hb, by rw [hs.ok, (t 1 (.inr (.inl rfl))).1, (t 2 (.inr (.inr rfl))).1]; rfl⟩
  have e1 := told_ok (N := fmN) ok
  unfold mulE
  rw [e1, hs.low bdM, hs.high bdM]
  show (⟨fmN (a * 16777216) (b * 16777216) 0, _, _, false⟩ : En) = _
  rw [(t 0 (.inl rfl)).2, (t 1 (.inr (.inl rfl))).2, (t 2 (.inr (.inr rfl))).2]
  rfl
theorem foldN_it {B : Int} : ∀ (ns : List Int) (s : Int), Sml B ns → 0 ≤ B → -67108864 + B * ns.length ≤ s → s ≤ 67108864 - B * ns.length → (ns.map itN).foldl addE (itN s) = itN (s + ns.sum)
  | [], s, _, _, _, _ => by simp
  | n :: ns, s, h, hB, h1, h2 => by
    have hn := h.head
    simp only [List.length_cons, Int.natCast_add, Int.mul_add] at h1 h2
    have hp : 0 ≤ B * ns.length := Int.mul_nonneg hB (by omega)
    rw [List.map_cons, List.foldl_cons, addN_it ⟨by omega, by omega⟩ ⟨by omega, by omega⟩ ⟨by omega, by omega⟩, foldN_it ns (s + n) h.tail hB (by omega) (by omega), List.sum_cons]
    congr 1
    omega
theorem sumN_it {B : Int} (ns : List Int) (h : Sml B ns) (hB : 0 ≤ B) (hb : B * ns.length ≤ 67108864) : sumN (ns.map itN) = itN ns.sum := by
  unfold sumN
  rw [ofN_it (n := 0) ⟨by omega, by omega⟩, foldN_it ns 0 h hB (by omega) (by omega)]
  simp
theorem wholesN_it {B : Int} (ns : List Int) (h : Sml B ns) (hb : B ≤ 67108864) : ns.map wholeN = ns.map itN :=
  List.map_congr_left fun x hx => ofN_it (by have := h x hx; exact ⟨by omega, by omega⟩)
theorem mulsN_it {A B : Int} (hA : A ≤ 67108864) (hB : B ≤ 67108864) (hAB : A * B ≤ 67108864) : ∀ (xs ys : List Int), Sml A xs → Sml B ys → List.zipWith mulE (xs.map itN) (ys.map itN) = (List.zipWith (· * ·) xs ys).map itN
  | [], _, _, _ => by simp
  | _ :: _, [], _, _ => by simp
  | x :: xs, y :: ys, h, k => by
    have h1 := h.head
    have h2 := k.head
    have h3 := mul_bound h1 h2
    rw [List.map_cons, List.map_cons, List.zipWith_cons_cons, List.zipWith_cons_cons, List.map_cons, mulN_it ⟨by omega, by omega⟩ ⟨by omega, by omega⟩ ⟨by omega, by omega⟩, mulsN_it hA hB hAB xs ys h.tail k.tail]
theorem dotN_it {xs ys : List Int} (h : Sml 1000 xs) (k : Sml 1000 ys) (hl : xs.length ≤ 20) : dotN (xs.map itN) (ys.map itN) = itN (dotI xs ys) := by
  unfold dotN dotI
  rw [mulsN_it (by omega) (by omega) (by omega) xs ys h k]
  refine sumN_it (B := 1000 * 1000) _ (muls_sml h k) (by omega) ?_
  have hln : (List.zipWith (· * ·) xs ys).length ≤ 20 := by simp; omega
  omega
theorem encl_it {n : Int} (h : Wn n) : enclB (itN n) n 1 = true := by
  unfold enclB withinB
  rw [fineN_it h, rightB_eq (by unfold Wn at h; omega), rightB_eq (n := 1) (by omega)]
  simp [itN]
end Go.Proofs.Ytokbmbgiimbkpaa

/- The walk of MatEncloses. Written by genMl.py. -/
namespace Go.Proofs.Ytokbmbgiimbkpaa
open Go.RowKit
set_option linter.unusedSimpArgs false
set_option linter.unusedVariables false

/-- A matrix of whole numbers, as enclosed ones. -/
abbrev MxE (w : World) (R C : Nat) (p : Option Addr) (n cap : Nat) (g : Nat → Nat → Int) : Prop := Mx 4 cellsN w R C p n cap (fun i k => itN (g i k))
theorem mulM_en {R M D : Nat} {a b : Nat → Nat → Int} (ha : Sm2 100 R M a) (hb : Sm2 100 M D b) (hM : M ≤ 16) {i k : Nat} (hi : i < R) (hk : k < D) :
    mulMN M (fun i k => itN (a i k)) (fun i k => itN (b i k)) i k = itN (mulI M a b i k) := by
  unfold mulMN mulI
  rw [show rowM M (fun i k => itN (a i k)) i = (rowM M a i).map itN by simp [rowM], show colM M (fun i k => itN (b i k)) k = (colM M b k).map itN by simp [colM]]
  exact dotN_it (fun x hx => by have := row_sml ha hi x hx; omega) (fun x hx => by have := col_sml hb hk x hx; omega) (by rw [rowM_len]; omega)
theorem wholeE_call (R C : Nat) (p : Option Addr) (n cap : Nat) (ns : List Int) (w : World) (hr : Rq 1 cI w (.slice p n cap) ns) (h : fitB R C n = true) (hn : ns.length = n) (hs : Sml 100 ns) :
    Calls Try.prog 31 #[.int .i64 R, .int .i64 C, .slice p n cap] w fun e w' => ∃ p' cap', e = .returned (.tuple #[mV R C p' n cap', .bool true]) ∧ MxE w' R C p' n cap' (ofL C ns) ∧ Bl w w' := by
  obtain ⟨R', C', h1, h2, hd, hn'⟩ := fitB_nat h
  obtain rfl : R = R' := by omega
  obtain rfl : C = C' := by omega
  refine (mWholeN R C p n cap ns w hr h hn).mono ?_
  rintro e w' ⟨p', cap', rfl, hR, hb⟩
  refine ⟨p', cap', rfl, ⟨hd, hn', ?_⟩, hb⟩
  have e : ns.map wholeN = mk R C (fun i k => itN (ofL C ns i k)) := by
    rw [wholesN_it ns hs (by omega), ← mk_map, ← ofL_mk (by omega)]
  rw [← e]
  exact hR.q
theorem mulE_call (R M D : Nat) (p : Option Addr) (n cap : Nat) (a : Nat → Nat → Int) (q : Option Addr) (n2 cap2 : Nat) (b : Nat → Nat → Int) (N : Nat) (w : World) (hx : MxE w R M p n cap a) (hy : MxE w M D q n2 cap2 b) (hN : N = R * D) (ha : Sm2 100 R M a) (hb : Sm2 100 M D b) :
    Calls Try.prog 32 #[mV R M p n cap, mV M D q n2 cap2] w fun e w' => ∃ p' cap', e = .returned (.tuple #[mV R D p' N cap', .bool true]) ∧ MxE w' R D p' N cap' (mulI M a b) ∧ Bl w w' := by
  refine (mMulN R M D p n cap _ q n2 cap2 _ N w hx hy hN).mono ?_
  rintro e w' ⟨p', cap', rfl, ⟨h, _, _⟩, hb'⟩
  exact ⟨p', cap', rfl, h.congr (fun i k hi hk => mulM_en ha hb hx.1.c2 hi hk), hb'⟩
/-- A row of enclosed numbers, cell by cell. -/
theorem rqN_cells {p : Option Addr} {n cap : Nat} {xs : List En} {w : World} (h : Rq 4 cellsN w (.slice p n cap) xs) : ∀ k x, xs[k]? = some x → ∃ b o, p = some ⟨b, o, none⟩ ∧ ∀ u, Bl w u → u.cell? ⟨b, o + k * 4, none⟩ = some (.int .i64 x.v) ∧ u.cell? ⟨b, o + k * 4 + 1, none⟩ = some (.int .i64 x.l) ∧ u.cell? ⟨b, o + k * 4 + 2, none⟩ = some (.int .i64 x.h) ∧ u.cell? ⟨b, o + k * 4 + 3, none⟩ = some (.bool x.bad) := by
  intro k x hk
  rcases h with ⟨_, _, _, h0, _⟩ | ⟨b, o, cc, e, _, hlt, HX⟩
  · rw [h0] at hk; simp at hk
  · cases e
    exact ⟨b, o, rfl, fun u hu => ⟨(bl_cell hu _ _ hlt).trans (HX k _ hk 0 _ rfl), (bl_cell hu _ _ hlt).trans (HX k _ hk 1 _ rfl), (bl_cell hu _ _ hlt).trans (HX k _ hk 2 _ rfl), (bl_cell hu _ _ hlt).trans (HX k _ hk 3 _ rfl)⟩⟩
theorem rqI_cells {p : Option Addr} {n cap : Nat} {xs : List Int} {w : World} (h : Rw 1 cellsI w (.slice p n cap) xs) : ∀ k x, xs[k]? = some x → ∃ b o, p = some ⟨b, o, none⟩ ∧ ∀ u, Bl w u → u.cell? ⟨b, o + k, none⟩ = some (.int .i64 x) := by
  intro k x hk
  rcases h with ⟨_, h0⟩ | ⟨b, o, cc, e, _, hlt, HX⟩
  · rw [h0] at hk; simp at hk
  · cases e
    refine ⟨b, o, rfl, fun u hu => (bl_cell hu _ _ hlt).trans ?_⟩
    have := HX k _ hk 0 _ rfl
    simpa using this
set_option maxRecDepth 100000 in
set_option maxHeartbeats 4000000 in
theorem walk_MatEncloses (va : Value) (xa : List Int) (vb : Value) (xb : List Int) (rows many cols : Int) (w : World) (ha : Rq 1 cI w va xa) (hb : Rq 1 cI w vb xb) :
    Calls Try.prog 8 #[va, vb, .int .i64 rows, .int .i64 many, .int .i64 cols] w fun e w' => e = .returned (.bool true) ∧ Bl w w' := by
  have AW := hideP awake6_any
  have F1 := hideP (few6_any va xa w ha)
  have F2 := hideP (few6_any vb xb w hb)
  obtain ⟨pa, ca, rfl, _, _⟩ := ha.cut
  obtain ⟨pb, cb, rfl, _, _⟩ := hb.cut
  obtain ⟨la, hla⟩ : ∃ la, la = xa.length := ⟨_, rfl⟩
  obtain ⟨lb, hlb⟩ : ∃ lb, lb = xb.length := ⟨_, rfl⟩
  rw [← hla] at F1 ha ⊢
  rw [← hlb] at F2 hb ⊢
  have HA := hideP ha
  have HB := hideP hb
  have HLA := hideP hla
  have HLB := hideP hlb
  clear ha hb hla hlb
  go_enter Try.func8, Try.ntmps8
  go_wp2_with fail
  refine F1.out.mono ?_
  rintro e w1 ⟨b1, rfl, hb1, rfl⟩
  clear F1
  cases b1 with
  | false =>
    go_wp2_with fail
    refine (AW.out _).mono ?_
    rintro e w9 ⟨rfl, h9⟩
    go_wp2
    go_ret
    exact ⟨rfl, (Bl.refl _).trans h9⟩
  | true =>
    obtain ⟨l1, s1⟩ := hb1 rfl
    have S1 := hideP s1
    clear hb1 s1
    go_wp2_with fail
    refine F2.out.mono ?_
    rintro e w1 ⟨b2, rfl, hb2, rfl⟩
    clear F2
    cases b2 with
    | false =>
      go_wp2_with fail
      refine (AW.out _).mono ?_
      rintro e w9 ⟨rfl, h9⟩
      go_wp2
      go_ret
      exact ⟨rfl, (Bl.refl _).trans h9⟩
    | true =>
      obtain ⟨l2, s2⟩ := hb2 rfl
      have S2 := hideP s2
      clear hb2 s2
      cases hf1 : fitB rows many la with
      | false =>
        cases hf2 : fitB many cols lb with
        | false =>
          go_wp2_with fail
          refine (mWholeN_no _ _ _ _ _ _ hf1).mono ?_
          rintro e w2 ⟨rfl, h2⟩
          have m1 := MBox.new w2 0 0 none 0 0 53
          go_wp2_with fail
          refine (mWholeN_no _ _ _ _ _ _ hf2).mono ?_
          rintro e w3 ⟨rfl, h3⟩
          obtain ⟨x0, x1, x2, _, _, _, lt⟩ := m1.later h3
          go_wp2_with fail
          refine (mMulN_no _ _ _ _ _ _ _ _ _ _ _ (.inl (by decide))).mono ?_
          rintro e w4 ⟨rfl, h4⟩
          clear x0 x1 x2
          have hB : Bl w1 (w4.alloc (.cells #[.int .i64 0, .int .i64 0, .slice none 0 0] 53)) := (((h2.alloc _).trans h3).alloc _).trans (h4.alloc _)
          go_wp2_with fail
          refine (AW.out _).mono ?_
          rintro e w9 ⟨rfl, h9⟩
          go_wp2
          go_ret
          exact ⟨rfl, hB.trans h9⟩
        | true =>
          obtain ⟨M, D, rfl, rfl, hd2, hn2⟩ := fitB_nat hf2
          clear hd2 hn2
          have C2 := hideP (fun u (hu : Bl w1 u) => wholeE_call M D pb lb cb xb u (HB.out.later hu) hf2 HLB.out.symm S2.out)
          go_wp2_with fail
          refine (mWholeN_no _ _ _ _ _ _ hf1).mono ?_
          rintro e w2 ⟨rfl, h2⟩
          have m1 := MBox.new w2 0 0 none 0 0 53
          go_wp2_with fail
          refine (C2.out _ (h2.alloc _)).mono ?_
          rintro e w3 ⟨p2, c2, rfl, hy, h3⟩
          clear hy
          obtain ⟨x0, x1, x2, _, _, _, lt⟩ := m1.later h3
          go_wp2_with fail
          refine (mMulN_no _ _ _ _ _ _ _ _ _ _ _ (.inl (by decide))).mono ?_
          rintro e w4 ⟨rfl, h4⟩
          clear x0 x1 x2
          have hB : Bl w1 (w4.alloc (.cells #[.int .i64 0, .int .i64 0, .slice none 0 0] 53)) := (((h2.alloc _).trans h3).alloc _).trans (h4.alloc _)
          go_wp2_with fail
          refine (AW.out _).mono ?_
          rintro e w9 ⟨rfl, h9⟩
          go_wp2
          go_ret
          exact ⟨rfl, hB.trans h9⟩
      | true =>
        obtain ⟨R, M, rfl, rfl, hdR, hnR'⟩ := fitB_nat hf1
        have HNR := hideP hnR'
        clear hnR'
        have C1 := hideP (wholeE_call R M pa la ca xa w1 HA.out hf1 HLA.out.symm S1.out)
        cases hf2 : fitB M cols lb with
        | false =>
          go_wp2_with fail
          refine C1.out.mono ?_
          rintro e w2 ⟨p1, c1, rfl, hx, h2⟩
          clear hx
          have m1 := MBox.new w2 R M p1 la c1 53
          go_wp2_with fail
          refine (mWholeN_no _ _ _ _ _ _ hf2).mono ?_
          rintro e w3 ⟨rfl, h3⟩
          obtain ⟨x0, x1, x2, _, _, _, lt⟩ := m1.later h3
          go_wp2_with fail
          refine (mMulN_no _ _ _ _ _ _ _ _ _ _ _ (.inr (.inl (by decide)))).mono ?_
          rintro e w4 ⟨rfl, h4⟩
          clear x0 x1 x2
          have hB : Bl w1 (w4.alloc (.cells #[.int .i64 0, .int .i64 0, .slice none 0 0] 53)) := (((h2.alloc _).trans h3).alloc _).trans (h4.alloc _)
          go_wp2_with fail
          refine (AW.out _).mono ?_
          rintro e w9 ⟨rfl, h9⟩
          go_wp2
          go_ret
          exact ⟨rfl, hB.trans h9⟩
        | true =>
          obtain ⟨M', D, hM', rfl, hdD, hnD⟩ := fitB_nat hf2
          have hnR := HNR.out
          obtain rfl : M = M' := by omega
          have sm1 := ofL_sml (R := R) (M := M) (ns := xa) (by rw [← HLA.out]; exact hnR) S1.out
          have sm2 := ofL_sml (R := M) (M := D) (ns := xb) (by rw [← HLB.out]; exact hnD) S2.out
          have C2 := hideP (fun u (hu : Bl w1 u) => wholeE_call M D pb lb cb xb u (HB.out.later hu) hf2 HLB.out.symm S2.out)
          obtain ⟨N, hN⟩ : ∃ N, N = R * D := ⟨_, rfl⟩
          have hN256 : N ≤ 256 := by rw [hN]; exact Nat.mul_le_mul hdR.r2 hdD.c2
          have RM := hideP (fun u (hu : Bl w1 u) => ref6Mul_any pa pb la ca lb cb xa xb R M D u hdR hdD (HA.out.later hu) (HB.out.later hu) (by rw [← HLA.out]; exact hnR) (by rw [← HLB.out]; exact hnD) hnR hnD S1.out S2.out)
          have SM := hideP (And.intro sm1 sm2)
          have HDD := hideP (And.intro hdR hdD)
          have HN := hideP hN
          clear sm1 sm2 hdR hdD hnR hnD hM' hN
          generalize ofL M xa = fa at *
          generalize ofL D xb = fb at *
          go_wp2_with fail
          refine C1.out.mono ?_
          rintro e w2 ⟨p1, c1, rfl, hx, h2⟩
          have HX := hideP hx
          clear hx C1
          have m1 := MBox.new w2 R M p1 la c1 53
          go_wp2_with fail
          refine (C2.out _ (h2.alloc _)).mono ?_
          rintro e w3 ⟨p2, c2, rfl, hy, h3⟩
          have HY := hideP hy
          clear hy C2
          have b23 : Bl w2 w3 := ((Bl.refl w2).alloc _).trans h3
          obtain ⟨x0, x1, x2, _, _, _, lt⟩ := m1.later h3
          go_wp2_with fail
          refine (mulE_call R M D p1 la c1 fa p2 lb c2 fb N _ (HX.out.later (b23.alloc _)) (HY.out.later ((Bl.refl _).alloc _)) HN.out SM.out.1 SM.out.2).mono ?_
          rintro e w4 ⟨p3, c3, rfl, hz, h4⟩
          clear x0 x1 x2
          have b34 : Bl w3 w4 := ((Bl.refl w3).alloc _).trans h4
          have m3 := MBox.new w4 R D p3 N c3 53
          have hB4 : Bl w1 w4 := h2.trans (b23.trans b34)
          have HZ := hideP (rqN_cells hz.2.2)
          clear hz
          go_wp2_with fail
          refine (RM.out _ (hB4.alloc _)).mono ?_
          rintro e w5 ⟨p5, c5, rfl, hr, h5⟩
          rw [← HN.out] at hr ⊢
          have HR := hideP (rqI_cells hr)
          clear hr RM
          have b45 : Bl w4 w5 := ((Bl.refl w4).alloc _).trans h5
          have m5 := m3.later h5
          have hsz5 := m5.lt
          go_wp2_with fail
          go_loopw [70] (fun i wr => ∃ k : Nat, i = .int .i64 k ∧ k ≤ N ∧ Bl w5 wr) (fun i _ => N - (intOf i).toNat)
          case atStart => exact ⟨0, rfl, Nat.zero_le _, Bl.refl _⟩
          case round =>
            obtain ⟨k, rfl, hk, bl⟩ := hrel
            by_cases hlt : k < N
            · have hlt' : k < R * D := by rw [← HN.out]; exact hlt
              have hD0 : 0 < D := HDD.out.2.c1
              have hki : k / D < R := (Nat.div_lt_iff_lt_mul hD0).2 hlt'
              have hkk : k % D < D := Nat.mod_lt _ hD0
              have ek : k / D * D + k % D = k := by rw [Nat.mul_comm]; exact Nat.div_add_mod k D
              have g1 := mk_get (mulI M fa fb) hki hkk
              have g2 := mk_get (fun i k => itN (mulI M fa fb i k)) hki hkk
              rw [ek] at g1 g2
              have hw : Wn (mulI M fa fb (k / D) (k % D)) := by have := mulI_bound (A := 100) (B := 100) (by omega) (by omega) SM.out.1 SM.out.2 hki hkk M (Nat.le_refl _); have := HDD.out.1.c2; exact ⟨by omega, by omega⟩
              obtain ⟨b, o, rfl, CX⟩ := HR.out k _ g1
              obtain ⟨b', o', rfl, CY⟩ := HZ.out k _ g2
              have cx := CX wr bl
              obtain ⟨y0, y1, y2, y3⟩ := CY wr (b45.trans bl)
              have en := encl_it hw
              have c2 := (m5.later bl).c2
              clear hlt' hD0 hki hkk ek g1 g2 hw CX CY
              generalize mulI M fa fb (k / D) (k % D) = x at *
              generalize itN x = y at *
              go_wp2_with fail
              refine (encl_any y x 1 _).mono ?_
              rintro e w6 ⟨rfl, h6⟩
              rw [en]
              clear cx y0 y1 y2 y3 c2 en
              go_wp2
              go_roundw
              case rel => exact ⟨k + 1, by simp, hlt, bl.trans h6⟩
              case measure => simp [intOf]; omega
            · obtain rfl : k = N := by omega
              have hB : Bl w1 wr := (hB4.trans b45).trans bl
              go_wp2_with fail
              refine (AW.out _).mono ?_
              rintro e w9 ⟨rfl, h9⟩
              go_wp2
              go_ret
              exact ⟨rfl, hB.trans h9⟩
end Go.Proofs.Ytokbmbgiimbkpaa

/- A slice of whole numbers as an argument: opened. -/
namespace Go.Proofs.Ytokbmbgiimbkpaa
open Go.ChangeShapes Go.WideShapes Go.ChangeAt Go.RowKit
set_option linter.unusedVariables false

theorem Try.cellsInt : Try.prog.cellsOf 3 = 1 := by kernel_rfl
theorem cell_block_lt {W : World} {b o : Nat} {v : Value} (h : W.cell? ⟨b, o, none⟩ = some v) : b < W.heap.size := by
  rcases Nat.lt_or_ge b W.heap.size with h' | h'
  · exact h'
  · have : W.heap[b]? = none := Array.getElem?_eq_none h'
    simp [World.cell?, this] at h
set_option maxRecDepth 1000000 in
theorem open_row {H : Type} {enc : TypeId × Value → H} {W : World} {b0 : Nat} {v : Value} {d : DataW H} {p : List MemPlace}
    (hv : Value.okWide Try.prog W .any b0 22 v) (h : DataW.Trod enc Try.prog W 0 (fun _ => true) true 22 v d p) : ∃ ns : List Int, Rq 1 cI W v ns ∧ ∀ n ∈ ns, (Lit.int .i64 n).wf = true := by
  obtain ⟨a0, len, cap, rfl⟩ := okWide_slice Try.underlying22 hv
  obtain ⟨fuel, hf⟩ := h
  rcases open_ints Try.underlying22 Try.underlying3 Try.cellsInt hf with ⟨hcs, hx⟩ | ⟨a, len', cap', zs, hcs, _, hl, hm, hz, hx, hcell, hwz⟩
  · simp [Value.cells] at hcs
    obtain ⟨rfl, rfl, rfl⟩ := hcs
    exact ⟨[], .inl ⟨none, 0, rfl, rfl, fun _ => rfl⟩, fun n hn => by simp at hn⟩
  · simp [Value.cells] at hcs
    obtain ⟨rfl, rfl, rfl⟩ := hcs
    simp only [if_true] at hz
    refine ⟨zs.take len, ?_, fun n hn => hwz n (List.mem_of_mem_take hn)⟩
    by_cases h0 : len = 0
    · subst h0
      exact .inl ⟨some a, cap, rfl, by simp, nofun⟩
    · have c0 := hcell 0 (by omega)
      obtain ⟨b, off, rfl, hc⟩ := ints_at hcell (by omega)
      have hb : b < W.heap.size := by
        have := hc 0 (by omega)
        exact cell_block_lt this
      have hll : (zs.take len).length = len := by simp; omega
      refine .inr ⟨b, off, cap, by rw [hll], by omega, hb, fun j x hj k u hu => ?_⟩
      rcases k with _ | k
      · simp at hu
        subst hu
        have hj2 := (List.getElem?_eq_some_iff.1 hj).1
        have := hc j (by omega)
        rw [List.getElem?_take] at hj
        split at hj
        · have e : zs.getD j 0 = x := by simp [List.getD, hj]
          rw [e] at this
          simpa using this
        · cases hj
      · simp at hu
end Go.Proofs.Ytokbmbgiimbkpaa

/- MatEncloses: the product of enclosed whole numbers encloses the whole numbers' (of 256 numbers from -100 up to 100). Conditions: none (every input). -/
namespace Go.Proofs.Ytokbmbgiimbkpaa
open Go.ChangeShapes Go.WideShapes Go.ChangeAt Go.RowKit
set_option linter.unusedVariables false

theorem own_MatEncloses : ownKnob Try.prog.godebug = none := by kernel_rfl
theorem laid_MatEncloses : laidOutB Try.prog = true := by kernel_rfl
set_option maxRecDepth 100000 in
theorem lifted_MatEncloses (os : Os) (started : os.Started) (H : Type) (enc : TypeId × Value → H) :
    ReturnsInHanded {} Try.checked os 8 .any (Rows.matEnclosesSpec.pre6 enc Try.prog Try.f8 Rows.matEnclosesRow.domain false) (Rows.matEnclosesSpec.post enc Try.prog Try.f8 false true false false) := by
  refine returnsInHanded_of_change (C := Try.checked) own_MatEncloses started (by kernel_rfl) Try.func8
    (ChangeSpec.witness6 (enc := enc) (C := Try.checked) false ⟨#[], #[.slice none 0 0, .slice none 0 0, .int .i64 0, .int .i64 0, .int .i64 0], []⟩ 8 (by kernel_rfl) (by kernel_rfl) (by kernel_rfl) (by kernel_rfl)) ?_
  intro W base args ds gs before hval0 hW hcnd _
  have hval : ∀ (j : Nat) t v, Try.f8.params[j]? = some t → args[j]? = some v → Value.okWide Try.prog W .any base t v := hval0
  have hW' := hW
  obtain ⟨p, q, hA0, hV, rfl, hfz, hnd⟩ := hW
  have hA : DataW.TrodAll enc Try.prog W 0 (fun _ => true) true Try.f8.params.toList args.toList ds p := hA0
  rw [Try.params8] at hA hval
  obtain ⟨v0, vs0, d0, ds0, p0, q0, hargs, rfl, rfl, h0, r0⟩ := trodAll_cons hA
  obtain ⟨v1, vs1, d1, ds1, p1, q1, rfl, rfl, rfl, h1, r1⟩ := trodAll_cons r0
  obtain ⟨v2, vs2, d2, ds2, p2, q2, rfl, rfl, rfl, h2, r2⟩ := trodAll_cons r1
  obtain ⟨v3, vs3, d3, ds3, p3, q3, rfl, rfl, rfl, h3, r3⟩ := trodAll_cons r2
  obtain ⟨v4, vs4, d4, ds4, p4, q4, rfl, rfl, rfl, h4, r4⟩ := trodAll_cons r3
  obtain ⟨rfl, rfl, rfl⟩ := trodAll_nil r4
  obtain rfl : args = #[v0, v1, v2, v3, v4] := by cases args; simp_all
  obtain ⟨rfl, rfl⟩ := trodVars_none hV
  have hltA := fun x hx => hW'.lt x hx
  obtain ⟨a0, R0, w0⟩ := open_row (hval 0 22 v0 rfl rfl) h0
  obtain ⟨a1, R1, w1⟩ := open_row (hval 1 22 v1 rfl rfl) h1
  obtain ⟨a2, e2, _, _, w2⟩ := open_int Try.underlying3 (hval 2 3 v2 rfl rfl) h2
  subst e2
  obtain ⟨a3, e3, _, _, w3⟩ := open_int Try.underlying3 (hval 3 3 v3 rfl rfl) h3
  subst e3
  obtain ⟨a4, e4, _, _, w4⟩ := open_int Try.underlying3 (hval 4 3 v4 rfl rfl) h4
  subst e4
  clear hA0 hval0
  refine (walk_MatEncloses v0 a0 v1 a1 a2 a3 a4 W R0 R1).mono fun e W' ⟨he, bel⟩ => ?_
  subst he
  exact ⟨_, rfl, _, _, _, [], _, [], hW', trodAll_mk1 (shut_bool Try.underlying4 _), (trodAll_cons_mk (Below.trod laid_MatEncloses (by kernel_rfl) (of_decide_eq_true (by kernel_rfl)) h0 bel (fun x hx => by have := hltA x (by simp [hx]); simpa using this)) (trodAll_cons_mk (Below.trod laid_MatEncloses (by kernel_rfl) (of_decide_eq_true (by kernel_rfl)) h1 bel (fun x hx => by have := hltA x (by simp [hx]); simpa using this)) (trodAll_cons_mk (Below.trod laid_MatEncloses (by kernel_rfl) (of_decide_eq_true (by kernel_rfl)) h2 bel (fun x hx => by have := hltA x (by simp [hx]); simpa using this)) (trodAll_cons_mk (Below.trod laid_MatEncloses (by kernel_rfl) (of_decide_eq_true (by kernel_rfl)) h3 bel (fun x hx => by have := hltA x (by simp [hx]); simpa using this)) (trodAll_cons_mk (Below.trod laid_MatEncloses (by kernel_rfl) (of_decide_eq_true (by kernel_rfl)) h4 bel (fun x hx => by have := hltA x (by simp [hx]); simpa using this)) trodAll_mk0))))), rfl, Below.frame bel _, fun h => by cases h⟩

theorem proved_MatEncloses : Rows.MatEnclosesSaid :=
  OpenClaim.holds_of_wide 8 Try.f8 rfl rfl rfl rfl rfl rfl rfl ⟨rfl, rfl, rfl, rfl, rfl⟩ rfl rfl rfl rfl rfl (by kernel_rfl) Try.func8 (by kernel_rfl)
    (of_decide_eq_true (by kernel_rfl)) (by unfold Func.isWrapper; first | (rw [if_pos (by decide +kernel)]; kernel_rfl) | (rw [if_neg (by decide +kernel)]; exact ⟨rfl, rfl⟩))
    (fun os started H enc _ => lifted_MatEncloses os started H enc)
#print axioms proved_MatEncloses
end Go.Proofs.Ytokbmbgiimbkpaa
