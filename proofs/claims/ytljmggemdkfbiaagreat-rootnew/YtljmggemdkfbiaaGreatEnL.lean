/- The mathematics of the laws of layer 3. -/
import Derived.Test.YtljmggemdkfbiaaGreatEn6
namespace Go.Proofs.YtljmggemdkfbiaaGreat
open Go.RowKit
set_option linter.unusedSimpArgs false
set_option linter.unusedVariables false

theorem low2 {N : Int → Int → Int → Int} (hN : Bd N) (x y : Int) : lowF N [(x, y), (x, y)] = N x y 1 := by
  have := hN x y 1
  simp only [lowF, List.foldl_cons, List.foldl_nil]; omega
theorem high2 {N : Int → Int → Int → Int} (hN : Bd N) (x y : Int) : highF N [(x, y), (x, y)] = N x y 2 := by
  have := hN x y 2
  simp only [highF, List.foldl_cons, List.foldl_nil]; omega
theorem low4 {N : Int → Int → Int → Int} (hN : Bd N) (x y : Int) : lowF N [(x, y), (x, y), (x, y), (x, y)] = N x y 1 := by
  have := hN x y 1
  simp only [lowF, List.foldl_cons, List.foldl_nil]; omega
theorem high4 {N : Int → Int → Int → Int} (hN : Bd N) (x y : Int) : highF N [(x, y), (x, y), (x, y), (x, y)] = N x y 2 := by
  have := hN x y 2
  simp only [highF, List.foldl_cons, List.foldl_nil]; omega
/-- A list of one pair, twice or four times. -/
def Same (ps : List (Int × Int)) (x y : Int) : Prop := ps = [(x, y), (x, y)] ∨ ps = [(x, y), (x, y), (x, y), (x, y)]
theorem Same.low {ps : List (Int × Int)} {x y : Int} (h : Same ps x y) {N : Int → Int → Int → Int} (hN : Bd N) : lowF N ps = N x y 1 := by
  rcases h with rfl | rfl
  · exact low2 hN x y
  · exact low4 hN x y
theorem Same.high {ps : List (Int × Int)} {x y : Int} (h : Same ps x y) {N : Int → Int → Int → Int} (hN : Bd N) : highF N ps = N x y 2 := by
  rcases h with rfl | rfl
  · exact high2 hN x y
  · exact high4 hN x y
theorem Same.ok {ps : List (Int × Int)} {x y : Int} (h : Same ps x y) (B : Int → Int → Int → Bool) : okF B ps = (B x y 1 && B x y 2) := by
  rcases h with rfl | rfl <;> simp [okF]

theorem told_nofine {N : Int → Int → Int → Int} {B : Int → Int → Int → Bool} {a b : En} {ps : List (Int × Int)} (h : fineB a = false ∨ fineB b = false) : toldE N B a b ps = wrongE := by
  apply told_bad
  unfold okE
  rcases h with h | h <;> simp [h]
theorem okE_iff {B : Int → Int → Int → Bool} {a b : En} {ps : List (Int × Int)} : okE B a b ps = true ↔ B a.v b.v 0 = true ∧ fineB a = true ∧ fineB b = true ∧ okF B ps = true := by
  unfold okE; simp [Bool.and_eq_true, and_assoc]
theorem wrong_nofine : fineB wrongE = false := rfl
theorem pt_true (n : Int) : ptE n true = ⟨n, n, n, false⟩ := rfl
theorem pt_false (n : Int) : ptE n false = wrongE := rfl
theorem pt_fine {n : Int} (h : frB n = true) : fineB ⟨n, n, n, false⟩ = true := fineB_iff.2 ⟨rfl, Int.le_refl _, Int.le_refl _, h, h⟩

/-- Bad, or as wide at most. -/
def Wd (x : En) (most : Int) : Prop := x.bad = true ∨ (-4611686018427387904 ≤ x.h - x.l ∧ x.h - x.l ≤ most)
theorem wd_wrong (k : Int) : Wd wrongE k := .inl rfl
theorem wd_told {N : Int → Int → Int → Int} {B : Int → Int → Int → Bool} {a b : En} {ps : List (Int × Int)} {most : Int} (hs : Same ps a.v b.v) (hN : Bd N)
    (ho : B a.v b.v 1 = true → B a.v b.v 0 = true → B a.v b.v 2 = true → N a.v b.v 2 ≤ N a.v b.v 1 + most) : Wd (toldE N B a b ps) most := by
  cases h : okE B a b ps
  · rw [told_bad h]; exact wd_wrong _
  · rw [told_ok h]
    obtain ⟨h0, _, _, hk⟩ := okE_iff.1 h
    rw [hs.ok, Bool.and_eq_true] at hk
    have := ho hk.1 h0 hk.2
    refine .inr ?_
    show _ ≤ highF N ps - lowF N ps ∧ highF N ps - lowF N ps ≤ most
    rw [hs.low hN, hs.high hN]
    have := hN a.v b.v 1
    have := hN a.v b.v 2
    omega
theorem wd_pt2 {N : Int → Int → Int → Int} {B : Int → Int → Int → Bool} {f : En → En → List (Int × Int)} {most : Int} (n m : Int) (p q : Bool) (hs : Same (f ⟨n, n, n, false⟩ ⟨m, m, m, false⟩) n m) (hN : Bd N)
    (ho : B n m 1 = true → B n m 0 = true → B n m 2 = true → N n m 2 ≤ N n m 1 + most) : Wd (toldE N B (ptE n p) (ptE m q) (f (ptE n p) (ptE m q))) most := by
  cases p
  · rw [pt_false, told_nofine (.inl wrong_nofine)]; exact wd_wrong _
  · cases q
    · rw [pt_false, told_nofine (.inr wrong_nofine)]; exact wd_wrong _
    · exact wd_told hs hN ho
theorem same_prs2 (n m : Int) : Same (prs2 ⟨n, n, n, false⟩ ⟨m, m, m, false⟩) n m := .inl rfl
theorem same_prsX (n m : Int) : Same (prsX ⟨n, n, n, false⟩ ⟨m, m, m, false⟩) n m := .inl rfl
theorem same_prs4 (n m : Int) : Same (prs4 ⟨n, n, n, false⟩ ⟨m, m, m, false⟩) n m := .inr rfl
theorem wd_add (n m : Int) (p q : Bool) : Wd (addE (ptE n p) (ptE m q)) 0 := wd_pt2 n m p q (same_prs2 n m) bdA fun _ _ _ => by unfold nA; omega
theorem wd_sub (n m : Int) (p q : Bool) : Wd (subE (ptE n p) (ptE m q)) 0 := wd_pt2 n m p q (same_prsX n m) bdS fun _ _ _ => by unfold nS; omega
theorem wd_neg (n : Int) (p : Bool) : Wd (negE (ptE n p)) 0 := wd_sub 0 n true p
theorem wd_mul (n m : Int) (p q : Bool) : Wd (mulE (ptE n p) (ptE m q)) 1 := wd_pt2 n m p q (same_prs4 n m) bdM fun h1 h0 h2 => (fm_order n m h1 h0 h2).2.2
theorem wd_div (n m : Int) (p q : Bool) : Wd (divE (ptE n p) (ptE m q)) 1 := by
  unfold divE
  split
  · exact wd_wrong _
  · exact wd_pt2 n m p q (same_prs4 n m) bdD fun h1 h0 h2 => (fd_order n m h1 h0 h2).2.2
theorem wd_root (n : Int) (p : Bool) : Wd (rootE (ptE n p)) 1 := by
  cases p
  · unfold rootE; rw [pt_false, told_nofine (.inl wrong_nofine)]; exact wd_wrong _
  · exact wd_told (same_prs2 n n) bdQ fun h1 h0 h2 => (fq_order n h1 h0 h2).2.2

/-- What is told is Bad, or Fine. -/
def FineOr (x : En) : Prop := x = wrongE ∨ (x.bad = false ∧ fineB x = true)
theorem fine_told {N : Int → Int → Int → Int} {B : Int → Int → Int → Bool} {a b : En} {ps : List (Int × Int)} (hN : Bd N)
    (hH : fineB a = true → fineB b = true → okF B ps = true → Hold N B ps a.v b.v) : FineOr (toldE N B a b ps) := by
  cases h : okE B a b ps
  · exact .inl (told_bad h)
  · rw [told_ok h]
    obtain ⟨h0, ha, hb, hk⟩ := okE_iff.1 h
    have H := hH ha hb hk
    have l := low_bd hN ps
    have u := high_bd hN ps
    have h1 := H.low
    have h2 := H.down
    have h3 := H.up
    have h4 := H.high
    exact .inr ⟨rfl, fineB_iff.2 ⟨rfl, Int.le_trans h1 h2, Int.le_trans h3 h4, frB_eq l, frB_eq u⟩⟩
theorem fine_add (a b : En) : FineOr (addE a b) := fine_told bdA fun ha hb hk => hold_add ha hb hk (in_v ha) (in_v hb)
theorem fine_sub (a b : En) : FineOr (subE a b) := fine_told bdS fun ha hb hk => hold_sub ha hb hk (in_v ha) (in_v hb)
theorem fineE_neg (a : En) : FineOr (negE a) := fine_sub _ a
theorem fine_mul (a b : En) : FineOr (mulE a b) := fine_told bdM fun ha hb hk => hold_mul ha hb hk (in_v ha) (in_v hb)
theorem fine_div (a b : En) : FineOr (divE a b) := by
  unfold divE
  cases hz : zeroB b
  · exact fine_told bdD fun ha hb hk => hold_div ha hb hz hk (in_v ha) (in_v hb)
  · exact .inl rfl
theorem fine_root (a : En) : FineOr (rootE a) := fine_told bdQ fun ha _ hk => hold_root ha hk (in_v ha)
theorem bad_nofine {a : En} (h : a.bad = true) : fineB a = false := by unfold fineB; rw [h]; rfl
theorem bad_add {a : En} (b : En) (h : a.bad = true) : addE a b = wrongE := told_nofine (.inl (bad_nofine h))
theorem bad_mul {a : En} (b : En) (h : a.bad = true) : mulE b a = wrongE := told_nofine (.inr (bad_nofine h))
theorem bad_root {a : En} (h : a.bad = true) : rootE a = wrongE := told_nofine (.inl (bad_nofine h))

/-- out is Bad, or it holds what 'inn' holds. -/
def With (inn out : En) : Prop := out.bad = true ∨ (inn.bad = false ∧ out.l ≤ inn.l ∧ inn.h ≤ out.h)
theorem with_told {N : Int → Int → Int → Int} {B : Int → Int → Int → Bool} {a b : En} {ps qs : List (Int × Int)} {x y : Int} (hN : Bd N) (hx : frB x = true) (hy : frB y = true) (hs : Same qs x y)
    (hH : fineB a = true → fineB b = true → okF B ps = true → Hold N B ps x y) : With (toldE N B ⟨x, x, x, false⟩ ⟨y, y, y, false⟩ qs) (toldE N B a b ps) := by
  cases h : okE B a b ps
  · rw [told_bad h]; exact .inl rfl
  · obtain ⟨h0, ha, hb, hk⟩ := okE_iff.1 h
    have H := hH ha hb hk
    have hq : okE B ⟨x, x, x, false⟩ ⟨y, y, y, false⟩ qs = true := okE_iff.2 ⟨H.told 0 (.inl rfl), pt_fine hx, pt_fine hy, by rw [hs.ok, H.told 1 (.inr (.inl rfl)), H.told 2 (.inr (.inr rfl))]; rfl⟩
    rw [told_ok h, told_ok hq]
    refine .inr ⟨rfl, ?_, ?_⟩
    · show lowF N ps ≤ lowF N qs
      rw [hs.low hN]; exact H.low
    · show highF N qs ≤ highF N ps
      rw [hs.high hN]; exact H.high
theorem with_add {a b : En} {x y : Int} (ha : fineB a = true) (hb : fineB b = true) (hx : inB a x) (hy : inB b y) : With (addE (ptE x true) (ptE y true)) (addE a b) :=
  with_told bdA (in_fr ha hx) (in_fr hb hy) (same_prs2 x y) fun ha hb hk => hold_add ha hb hk hx hy
theorem with_sub {a b : En} {x y : Int} (ha : fineB a = true) (hb : fineB b = true) (hx : inB a x) (hy : inB b y) : With (subE (ptE x true) (ptE y true)) (subE a b) :=
  with_told bdS (in_fr ha hx) (in_fr hb hy) (same_prsX x y) fun ha hb hk => hold_sub ha hb hk hx hy
theorem with_mul {a b : En} {x y : Int} (ha : fineB a = true) (hb : fineB b = true) (hx : inB a x) (hy : inB b y) : With (mulE (ptE x true) (ptE y true)) (mulE a b) :=
  with_told bdM (in_fr ha hx) (in_fr hb hy) (same_prs4 x y) fun ha hb hk => hold_mul ha hb hk hx hy
theorem with_div {a b : En} {x y : Int} (ha : fineB a = true) (hb : fineB b = true) (hx : inB a x) (hy : inB b y) : With (divE (ptE x true) (ptE y true)) (divE a b) := by
  unfold divE
  cases hz : zeroB b
  · have hz' : zeroB (ptE y true) = false := by
      unfold zeroB at hz ⊢
      unfold inB at hy
      rw [Bool.and_eq_false_iff] at hz ⊢
      rcases hz with h | h
      · left; have := of_decide_eq_false h; exact decide_eq_false (show ¬ y ≤ 0 by omega)
      · right; have := of_decide_eq_false h; exact decide_eq_false (show ¬ 0 ≤ y by omega)
    rw [hz']
    exact with_told bdD (in_fr ha hx) (in_fr hb hy) (same_prs4 x y) fun ha hb hk => hold_div ha hb hz hk hx hy
  · exact .inl rfl
theorem with_root {a : En} {x : Int} (ha : fineB a = true) (hx : inB a x) : With (rootE (ptE x true)) (rootE a) :=
  with_told bdQ (in_fr ha hx) (in_fr ha hx) (same_prs2 x x) fun ha _ hk => hold_root ha hk hx
theorem with_neg {a : En} {x : Int} (ha : fineB a = true) (hx : inB a x) : With (negE (ptE x true)) (negE a) :=
  with_sub (pt_fine (by decide)) ha ⟨Int.le_refl _, Int.le_refl _⟩ hx

theorem fa_comm (a b : Int) : faN a b = faN b a ∧ faB a b = faB b a := by
  have h : faB a b = faB b a := by unfold faB; rw [allB2, allB2, Int.add_comm, Bool.and_comm (frB a)]
  exact ⟨by unfold faN; rw [h, Int.add_comm], h⟩
theorem md_comm (a b c m : Int) : mdN a b c m = mdN b a c m ∧ mdB a b c m = mdB b a c m := by
  have hbel : belB a b c = belB b a c := by unfold belB; rw [Int.mul_comm a b]
  have hg : mdG a b c m = mdG b a c m := by unfold mdG; rw [Bool.and_comm (rightB a)]
  have hC : mdC a b c m = mdC b a c m := by unfold mdC; rw [Int.mul_comm (szI a), hbel]
  constructor
  · unfold mdN; rw [hg, hC, hbel]
  · unfold mdB; rw [hg, hC]
theorem fm_comm (a b m : Int) : fmN a b m = fmN b a m ∧ fmB a b m = fmB b a m := by
  have e := md_comm a b 16777216 m
  have h : fmB a b m = fmB b a m := by unfold fmB; rw [e.1, e.2, allB2, allB2, Bool.and_comm (frB a)]
  exact ⟨by unfold fmN; rw [h, e.1], h⟩
theorem ok_comm {B : Int → Int → Int → Bool} {a b : En} {ps qs : List (Int × Int)} (h : B a.v b.v 0 = B b.v a.v 0) (hk : okF B ps = okF B qs) : okE B a b ps = okE B b a qs := by
  unfold okE
  rw [h, hk]
  cases B b.v a.v 0 <;> cases fineB a <;> cases fineB b <;> rfl
theorem add_comm' (a b : En) : addE b a = addE a b := by
  unfold addE toldE
  have e : ∀ x y m, nA x y m = nA y x m := fun x y _ => (fa_comm x y).1
  have k : ∀ x y m, bA x y m = bA y x m := fun x y _ => (fa_comm x y).2
  have hl : lowF nA (prs2 b a) = lowF nA (prs2 a b) := by simp only [lowF, prs2, List.foldl_cons, List.foldl_nil, e b.l, e b.h]
  have hh : highF nA (prs2 b a) = highF nA (prs2 a b) := by simp only [highF, prs2, List.foldl_cons, List.foldl_nil, e b.l, e b.h]
  have ho : okE bA b a (prs2 b a) = okE bA a b (prs2 a b) := ok_comm (k _ _ _) (by simp only [okF, prs2, List.all_cons, List.all_nil, k b.l, k b.h])
  rw [ho, hl, hh, e b.v]
theorem mul_comm' (a b : En) : mulE b a = mulE a b := by
  unfold mulE toldE
  have e : ∀ x y m, fmN x y m = fmN y x m := fun x y m => (fm_comm x y m).1
  have k : ∀ x y m, fmB x y m = fmB y x m := fun x y m => (fm_comm x y m).2
  have hl : lowF fmN (prs4 b a) = lowF fmN (prs4 a b) := by
    simp only [lowF, prs4, List.foldl_cons, List.foldl_nil, e b.l, e b.h]; omega
  have hh : highF fmN (prs4 b a) = highF fmN (prs4 a b) := by
    simp only [highF, prs4, List.foldl_cons, List.foldl_nil, e b.l, e b.h]; omega
  have ho : okE fmB b a (prs4 b a) = okE fmB a b (prs4 a b) := ok_comm (k _ _ _) (by
    simp only [okF, prs4, List.all_cons, List.all_nil, k b.l, k b.h, Bool.and_true]
    ac_rfl)
  rw [ho, hl, hh, e b.v]
/-- What is taken off itself encloses 0. -/
theorem self_encl (a : En) : (subE a a).bad = true ∨ enclB (subE a a) 0 1 = true := by
  rcases fine_sub a a with h | ⟨h, hf⟩
  · left; rw [h]; rfl
  · right
    have hk : okE bS a a (prsX a a) = true := by
      cases k : okE bS a a (prsX a a)
      · have : subE a a = wrongE := told_bad k
        rw [this] at h; cases h
      · rfl
    obtain ⟨h0, ha, _, hk2⟩ := okE_iff.1 hk
    have H := hold_sub ha ha hk2 (in_v ha) (in_v ha)
    have v := (fs_val (show fsB a.v a.v = true from h0)).1
    have e : subE a a = ⟨nS a.v a.v 0, lowF nS (prsX a a), highF nS (prsX a a), false⟩ := told_ok hk
    have h1 : lowF nS (prsX a a) ≤ fsN a.v a.v := H.low
    have h2 : fsN a.v a.v ≤ highF nS (prsX a a) := H.high
    rw [v] at h1 h2
    unfold enclB withinB
    rw [hf, e]
    generalize lowF nS (prsX a a) = lo at *
    generalize highF nS (prsX a a) = hi at *
    have d1 : decide (lo * 1 ≤ 0 * 16777216) = true := decide_eq_true (by omega)
    have d2 : decide (0 * 16777216 ≤ hi * 1) = true := decide_eq_true (by omega)
    simp only [d1, d2]
    rfl
theorem self_meet {a : En} (h : fineB a = true) : meetB a a = true := by
  obtain ⟨h1, h2, h3, _, _⟩ := fineB_iff.1 h
  unfold meetB
  rw [h1, decide_eq_true (by omega)]; rfl
end Go.Proofs.YtljmggemdkfbiaaGreat
