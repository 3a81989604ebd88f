/- Enclosed numbers (layer 3): what is told of them, by the numbers themselves. -/
import Derived.Test.YtljmggemdkfbiaaGreatFxN
namespace Go.Proofs.YtljmggemdkfbiaaGreat
open Go.RowKit
set_option linter.unusedSimpArgs false
set_option linter.unusedVariables false

theorem rnd_order (x c : Int) (hc : 0 < c) : rnd x c 1 ≤ rnd x c 0 ∧ rnd x c 0 ≤ rnd x c 2 ∧ rnd x c 2 ≤ rnd x c 1 + 1 := by
  rw [rnd_down, rnd_up, rnd_even]
  unfold evn
  have a1 := Int.mul_ediv_add_emod x c
  have a2 := Int.emod_nonneg x (show c ≠ 0 by omega)
  have a3 := Int.emod_lt_of_pos x hc
  generalize hq : x / c = q at *
  generalize hr : x % c = r at *
  by_cases h : r = 0
  · subst h
    have hn := (Int.ediv_emod_unique hc (a := -x) (q := -q) (r := 0)).2 ⟨by rw [Int.mul_neg]; omega, by omega, hc⟩
    rw [hn.1, if_pos (by omega)]
    omega
  · have hn := (Int.ediv_emod_unique hc (a := -x) (q := -q - 1) (r := c - r)).2 ⟨by rw [Int.mul_sub, Int.mul_neg, Int.mul_one]; omega, by omega, by omega⟩
    rw [hn.1]
    split
    · omega
    · split <;> omega
theorem rnd_scale (x c k m : Int) (hc : 0 < c) (hk : 0 < k) : rnd (x * k) (c * k) m = rnd x c m := by
  have hd : x * k / (c * k) = x / c := Int.mul_ediv_mul_of_pos_left x c hk
  have hn : -(x * k) / (c * k) = -x / c := by rw [← Int.neg_mul]; exact Int.mul_ediv_mul_of_pos_left (-x) c hk
  have hm : x * k % (c * k) = x % c * k := by
    rw [Int.mul_comm x k, Int.mul_comm c k, Int.mul_emod_mul_of_pos _ _ hk, Int.mul_comm]
  unfold rnd evn
  rw [hd, hn, hm]
  have h1 : (2 * (x % c * k) < c * k) ↔ (2 * (x % c) < c) := by
    rw [← Int.mul_assoc]; exact Int.mul_lt_mul_right hk
  have h2 : (c * k < 2 * (x % c * k)) ↔ (c < 2 * (x % c)) := by
    rw [← Int.mul_assoc]; exact Int.mul_lt_mul_right hk
  simp only [h1, h2]
theorem rnd_cross (x c y d m : Int) (hc : 0 < c) (hd : 0 < d) (h : x * d ≤ y * c) : rnd x c m ≤ rnd y d m := by
  rw [← rnd_scale x c d m hc hd, ← rnd_scale y d c m hd hc, Int.mul_comm d c]
  exact rnd_mono _ _ _ _ (Int.mul_pos hc hd) h

theorem md_told (a b c m : Int) (hc : 0 < c) (hg : mdG a b c m = true) (hf : frB (rnd (a * b) c m) = true) : mdB a b c m = true ∧ mdN a b c m = rnd (a * b) c m := by
  have hm := mode_cases (mdG_mode hg)
  have e := mdC_round a b c m hc hm
  have hr : rdB (mdC a b c m) = true := by
    have k := frB_iff.1 hf
    unfold rdB
    apply decide_eq_true
    split at e <;> omega
  have hb : mdB a b c m = true := by unfold mdB; rw [hg, hr]; rfl
  exact ⟨hb, md_round a b c m hc hb⟩
theorem md_neg (a b c m : Int) : mdN (-a) b (-c) m = mdN a b c m ∧ mdB (-a) b (-c) m = mdB a b c m := by
  have s1 : szI (-a) = szI a := by unfold szI; split <;> split <;> omega
  have s2 : szI (-c) = szI c := by unfold szI; split <;> split <;> omega
  have hbel : belB (-a) b (-c) = belB a b c := by unfold belB; rw [Int.neg_mul, Int.neg_mul, Int.mul_neg, Int.neg_neg]
  have hg : mdG (-a) b (-c) m = mdG a b c m := by
    have hz : (-c == 0) = (c == 0) := by rw [Bool.eq_iff_iff]; simp
    unfold mdG; rw [right_neg, right_neg, hz]
  have hC : mdC (-a) b (-c) m = mdC a b c m := by unfold mdC; rw [s1, s2, hbel]
  constructor
  · unfold mdN; rw [hg, hC, hbel]
  · unfold mdB; rw [hg, hC]

/-- A number of mode. -/
def MD (m : Int) : Prop := m = 0 ∨ m = 1 ∨ m = 2
theorem MD.b {m : Int} (h : MD m) : modeB m = true := by rcases h with rfl | rfl | rfl <;> rfl
theorem fm_inv {a b m : Int} (h : fmB a b m = true) : frB a = true ∧ frB b = true ∧ fmN a b m = rnd (a * b) 16777216 m ∧ frB (rnd (a * b) 16777216 m) = true := by
  have x := fmB_md h
  have r := md_round _ _ _ _ (by decide) x.1
  have k := h
  unfold fmB at k
  rw [allB2] at k
  simp only [Bool.and_eq_true] at k
  rw [r] at k x
  exact ⟨k.2.1, k.2.2, x.2, k.1.2⟩
theorem fm_told {a b m : Int} (ha : frB a = true) (hb : frB b = true) (hm : MD m) (hf : frB (rnd (a * b) 16777216 m) = true) : fmB a b m = true ∧ fmN a b m = rnd (a * b) 16777216 m := by
  have hg : mdG a b 16777216 m = true := by unfold mdG; rw [frB_right ha, frB_right hb, hm.b]; rfl
  have x := md_told a b 16777216 m (by decide) hg hf
  have hB : fmB a b m = true := by unfold fmB; rw [x.1, x.2, hf, allB2, ha, hb]; rfl
  exact ⟨hB, by unfold fmN; rw [hB, x.2]; rfl⟩

/-- A quotient's parts: what stands above, and below, the line. -/
def qn (a b : Int) : Int := if b < 0 then -a * 16777216 else a * 16777216
theorem qn_neg {a b : Int} (h : b < 0) : qn a b = -a * 16777216 := if_pos h
theorem qn_pos {a b : Int} (h : ¬ b < 0) : qn a b = a * 16777216 := if_neg h
theorem szI_neg' {b : Int} (h : b < 0) : szI b = -b := if_pos h
theorem szI_pos' {b : Int} (h : ¬ b < 0) : szI b = b := if_neg h
theorem md_quot (a b m : Int) (hz : b ≠ 0) (h : mdB a 16777216 b m = true) : mdN a 16777216 b m = rnd (qn a b) (szI b) m := by
  by_cases hb : b < 0
  · have n := md_neg a 16777216 b m
    rw [← n.2] at h
    rw [← n.1, qn_neg hb, szI_neg' hb, md_round _ _ _ _ (by omega) h]
  · rw [qn_pos hb, szI_pos' hb, md_round _ _ _ _ (by omega) h]
theorem fd_inv {a b m : Int} (h : fdB a b m = true) : frB a = true ∧ frB b = true ∧ b ≠ 0 ∧ fdN a b m = rnd (qn a b) (szI b) m ∧ frB (rnd (qn a b) (szI b) m) = true := by
  have x := fdB_md h
  have hz : b ≠ 0 := by
    have := mdB_G x.1
    intro e
    rw [e] at this
    simp [mdG] at this
  have r := md_quot a b m hz x.1
  have k := h
  unfold fdB at k
  rw [allB2] at k
  simp only [Bool.and_eq_true] at k
  rw [r] at k x
  exact ⟨k.2.1, k.2.2, hz, x.2, k.1.2⟩
theorem md_qtold (a b m : Int) (hz : b ≠ 0) (hg : mdG a 16777216 b m = true) (hf : frB (rnd (qn a b) (szI b) m) = true) : mdB a 16777216 b m = true ∧ mdN a 16777216 b m = rnd (qn a b) (szI b) m := by
  by_cases hb : b < 0
  · rw [qn_neg hb, szI_neg' hb] at hf ⊢
    have n := md_neg a 16777216 b m
    rw [← n.1, ← n.2]
    refine md_told (-a) 16777216 (-b) m (by omega) ?_ hf
    have hz : (-b == 0) = (b == 0) := by rw [Bool.eq_iff_iff]; simp
    rw [← hg]
    unfold mdG; rw [right_neg, right_neg, hz]
  · rw [qn_pos hb, szI_pos' hb] at hf ⊢
    exact md_told a 16777216 b m (by omega) hg hf
theorem fd_told {a b m : Int} (ha : frB a = true) (hb : frB b = true) (hz : b ≠ 0) (hm : MD m) (hf : frB (rnd (qn a b) (szI b) m) = true) : fdB a b m = true ∧ fdN a b m = rnd (qn a b) (szI b) m := by
  have hz' : (b == 0) = false := by simpa using hz
  have hg : mdG a 16777216 b m = true := by unfold mdG; rw [frB_right ha, frB_right hb, hm.b, hz']; rfl
  have x := md_qtold a b m hz hg hf
  have hB : fdB a b m = true := by unfold fdB; rw [x.1, x.2, hf, allB2, ha, hb]; rfl
  exact ⟨hB, by unfold fdN; rw [hB, x.2]; rfl⟩

/-- An enclosed number: its value, its bounds, and whether it is Bad. -/
structure En where
  v : Int
  l : Int
  h : Int
  bad : Bool
def wrongE : En := ⟨0, 0, 0, true⟩
def ptE (n : Int) : Bool → En
  | true => ⟨n, n, n, false⟩
  | false => wrongE
def fineB (a : En) : Bool := !a.bad && decide (a.l ≤ a.v) && decide (a.v ≤ a.h) && frB a.l && frB a.h
theorem fineB_iff {a : En} : fineB a = true ↔ a.bad = false ∧ a.l ≤ a.v ∧ a.v ≤ a.h ∧ frB a.l = true ∧ frB a.h = true := by
  unfold fineB; simp [Bool.and_eq_true, and_assoc]
/-- The least, and the greatest, of what is told of pairs of bounds; and whether all of it is told. -/
def lowF (N : Int → Int → Int → Int) (ps : List (Int × Int)) : Int := ps.foldl (fun x p => min x (N p.1 p.2 1)) 1125899906842624
def highF (N : Int → Int → Int → Int) (ps : List (Int × Int)) : Int := ps.foldl (fun x p => max x (N p.1 p.2 2)) (-1125899906842624)
def okF (B : Int → Int → Int → Bool) (ps : List (Int × Int)) : Bool := ps.all fun p => B p.1 p.2 1 && B p.1 p.2 2
/-- What comes of a and b. -/
def okE (B : Int → Int → Int → Bool) (a b : En) (ps : List (Int × Int)) : Bool := B a.v b.v 0 && fineB a && fineB b && okF B ps
def toldE (N : Int → Int → Int → Int) (B : Int → Int → Int → Bool) (a b : En) (ps : List (Int × Int)) : En :=
  if okE B a b ps then ⟨N a.v b.v 0, lowF N ps, highF N ps, false⟩ else wrongE
def prs2 (a b : En) : List (Int × Int) := [(a.l, b.l), (a.h, b.h)]
def prsX (a b : En) : List (Int × Int) := [(a.l, b.h), (a.h, b.l)]
def prs4 (a b : En) : List (Int × Int) := [(a.l, b.l), (a.l, b.h), (a.h, b.l), (a.h, b.h)]
def nA (a b _m : Int) : Int := faN a b
def bA (a b _m : Int) : Bool := faB a b
def nS (a b _m : Int) : Int := fsN a b
def bS (a b _m : Int) : Bool := fsB a b
def nQ (a _b m : Int) : Int := fqN a m
def bQ (a _b m : Int) : Bool := fqB a m
def addE (a b : En) : En := toldE nA bA a b (prs2 a b)
def subE (a b : En) : En := toldE nS bS a b (prsX a b)
def mulE (a b : En) : En := toldE fmN fmB a b (prs4 a b)
/-- Does it enclose 0? -/
def zeroB (b : En) : Bool := decide (b.l ≤ 0) && decide (0 ≤ b.h)
def divE (a b : En) : En := if zeroB b then wrongE else toldE fdN fdB a b (prs4 a b)
def rootE (a : En) : En := toldE nQ bQ a a (prs2 a a)

theorem foldl_min (f : Int × Int → Int) : ∀ (ps : List (Int × Int)) (i : Int), ps.foldl (fun x p => min x (f p)) i ≤ i ∧ (∀ p ∈ ps, ps.foldl (fun x p => min x (f p)) i ≤ f p) ∧ (∀ c, c ≤ i → (∀ p ∈ ps, c ≤ f p) → c ≤ ps.foldl (fun x p => min x (f p)) i)
  | [], i => ⟨Int.le_refl _, fun _ h => by simp at h, fun _ h _ => h⟩
  | q :: ps, i => by
    obtain ⟨h1, h2, h3⟩ := foldl_min f ps (min i (f q))
    simp only [List.foldl_cons]
    refine ⟨by omega, ?_, ?_⟩
    · intro p hp
      rcases List.mem_cons.1 hp with rfl | hp
      · omega
      · exact h2 p hp
    · intro c hc hall
      refine h3 c ?_ fun p hp => hall p (List.mem_cons_of_mem _ hp)
      have := hall q List.mem_cons_self
      omega
theorem foldl_max (f : Int × Int → Int) : ∀ (ps : List (Int × Int)) (i : Int), i ≤ ps.foldl (fun x p => max x (f p)) i ∧ (∀ p ∈ ps, f p ≤ ps.foldl (fun x p => max x (f p)) i) ∧ (∀ c, i ≤ c → (∀ p ∈ ps, f p ≤ c) → ps.foldl (fun x p => max x (f p)) i ≤ c)
  | [], i => ⟨Int.le_refl _, fun _ h => by simp at h, fun _ h _ => h⟩
  | q :: ps, i => by
    obtain ⟨h1, h2, h3⟩ := foldl_max f ps (max i (f q))
    simp only [List.foldl_cons]
    refine ⟨by omega, ?_, ?_⟩
    · intro p hp
      rcases List.mem_cons.1 hp with rfl | hp
      · omega
      · exact h2 p hp
    · intro c hc hall
      refine h3 c ?_ fun p hp => hall p (List.mem_cons_of_mem _ hp)
      have := hall q List.mem_cons_self
      omega
/-- What is told is a number that may be. -/
def Bd (N : Int → Int → Int → Int) : Prop := ∀ a b m, -1125899906842624 ≤ N a b m ∧ N a b m ≤ 1125899906842624
theorem fsN_bd (a b : Int) : -1125899906842624 ≤ fsN a b ∧ fsN a b ≤ 1125899906842624 := toN_bd _ _ fun h => by
  unfold fsB at h; simp only [Bool.and_eq_true] at h; exact h.1
theorem bdA : Bd nA := fun a b _ => faN_bd a b
theorem bdS : Bd nS := fun a b _ => fsN_bd a b
theorem bdM : Bd fmN := fmN_bd
theorem bdD : Bd fdN := fdN_bd
theorem bdQ : Bd nQ := fun a _ m => fqN_bd a m
theorem low_bd {N : Int → Int → Int → Int} (hN : Bd N) (ps : List (Int × Int)) : -1125899906842624 ≤ lowF N ps ∧ lowF N ps ≤ 1125899906842624 := by
  obtain ⟨h1, h2, h3⟩ := foldl_min (fun p => N p.1 p.2 1) ps 1125899906842624
  exact ⟨h3 _ (by omega) fun p _ => (hN _ _ _).1, h1⟩
theorem high_bd {N : Int → Int → Int → Int} (hN : Bd N) (ps : List (Int × Int)) : -1125899906842624 ≤ highF N ps ∧ highF N ps ≤ 1125899906842624 := by
  obtain ⟨h1, h2, h3⟩ := foldl_max (fun p => N p.1 p.2 2) ps (-1125899906842624)
  exact ⟨h1, h3 _ (by omega) fun p _ => (hN _ _ _).2⟩
theorem low_le {N : Int → Int → Int → Int} {ps : List (Int × Int)} {p : Int × Int} (h : p ∈ ps) : lowF N ps ≤ N p.1 p.2 1 := (foldl_min (fun p => N p.1 p.2 1) ps 1125899906842624).2.1 p h
theorem le_high {N : Int → Int → Int → Int} {ps : List (Int × Int)} {p : Int × Int} (h : p ∈ ps) : N p.1 p.2 2 ≤ highF N ps := (foldl_max (fun p => N p.1 p.2 2) ps (-1125899906842624)).2.1 p h
theorem ok_at {B : Int → Int → Int → Bool} {ps : List (Int × Int)} {p : Int × Int} (h : okF B ps = true) (hp : p ∈ ps) : B p.1 p.2 1 = true ∧ B p.1 p.2 2 = true := by
  have := List.all_eq_true.1 h p hp
  simpa [Bool.and_eq_true] using this

/-- What is told of x and y lies between what is told of the bounds. -/
structure Hold (N : Int → Int → Int → Int) (B : Int → Int → Int → Bool) (ps : List (Int × Int)) (x y : Int) : Prop where
  told : ∀ m, MD m → B x y m = true
  low : lowF N ps ≤ N x y 1
  down : N x y 1 ≤ N x y 0
  up : N x y 0 ≤ N x y 2
  high : N x y 2 ≤ highF N ps

/-- x lies between the bounds of a. -/
def inB (a : En) (x : Int) : Prop := a.l ≤ x ∧ x ≤ a.h
theorem in_fr {a : En} (h : fineB a = true) {x : Int} (k : inB a x) : frB x = true := by
  obtain ⟨_, _, _, h1, h2⟩ := fineB_iff.1 h
  have := frB_iff.1 h1
  have := frB_iff.1 h2
  unfold inB at k
  exact frB_eq (by omega)
theorem in_v {a : En} (h : fineB a = true) : inB a a.v := by
  obtain ⟨_, h1, h2, _, _⟩ := fineB_iff.1 h
  exact ⟨h1, h2⟩

theorem fa_val {a b : Int} (h : faB a b = true) : faN a b = a + b ∧ frB (a + b) = true := by
  have k := h
  unfold faB at k
  rw [Bool.and_eq_true] at k
  exact ⟨by unfold faN; rw [h]; rfl, k.1⟩
theorem fa_told {a b : Int} (ha : frB a = true) (hb : frB b = true) (h : frB (a + b) = true) : faB a b = true ∧ faN a b = a + b := by
  have k : faB a b = true := by unfold faB; rw [h, allB2, ha, hb]; rfl
  exact ⟨k, by unfold faN; rw [k]; rfl⟩
theorem fs_val {a b : Int} (h : fsB a b = true) : fsN a b = a - b ∧ frB (a - b) = true := by
  have k := h
  unfold fsB at k
  rw [Bool.and_eq_true] at k
  exact ⟨by unfold fsN; rw [h]; rfl, k.1⟩
theorem fs_told {a b : Int} (ha : frB a = true) (hb : frB b = true) (h : frB (a - b) = true) : fsB a b = true ∧ fsN a b = a - b := by
  have k : fsB a b = true := by unfold fsB; rw [h, allB2, ha, hb]; rfl
  exact ⟨k, by unfold fsN; rw [k]; rfl⟩

theorem hold_add {a b : En} (ha : fineB a = true) (hb : fineB b = true) (ho : okF bA (prs2 a b) = true) {x y : Int} (hx : inB a x) (hy : inB b y) : Hold nA bA (prs2 a b) x y := by
  have m1 : (a.l, b.l) ∈ prs2 a b := by simp [prs2]
  have m2 : (a.h, b.h) ∈ prs2 a b := by simp [prs2]
  have v1 := fa_val (ok_at ho m1).1
  have v2 := fa_val (ok_at ho m2).1
  have g1 := frB_iff.1 v1.2
  have g2 := frB_iff.1 v2.2
  have hx' := hx
  have hy' := hy
  unfold inB at hx' hy'
  have t := fa_told (in_fr ha hx) (in_fr hb hy) (frB_eq (by omega))
  have l1 := low_le (N := nA) m1
  have l2 := le_high (N := nA) m2
  unfold nA at l1 l2
  simp only at l1 l2 v1 v2
  rw [v1.1] at l1
  rw [v2.1] at l2
  refine ⟨fun _ _ => t.1, ?_, Int.le_refl _, Int.le_refl _, ?_⟩
  · show lowF nA (prs2 a b) ≤ faN x y
    rw [t.2]
    exact Int.le_trans l1 (by omega)
  · show faN x y ≤ highF nA (prs2 a b)
    rw [t.2]
    exact Int.le_trans (by omega) l2
theorem hold_sub {a b : En} (ha : fineB a = true) (hb : fineB b = true) (ho : okF bS (prsX a b) = true) {x y : Int} (hx : inB a x) (hy : inB b y) : Hold nS bS (prsX a b) x y := by
  have m1 : (a.l, b.h) ∈ prsX a b := by simp [prsX]
  have m2 : (a.h, b.l) ∈ prsX a b := by simp [prsX]
  have v1 := fs_val (ok_at ho m1).1
  have v2 := fs_val (ok_at ho m2).1
  have g1 := frB_iff.1 v1.2
  have g2 := frB_iff.1 v2.2
  have hx' := hx
  have hy' := hy
  unfold inB at hx' hy'
  have t := fs_told (in_fr ha hx) (in_fr hb hy) (frB_eq (by omega))
  have l1 := low_le (N := nS) m1
  have l2 := le_high (N := nS) m2
  unfold nS at l1 l2
  simp only at l1 l2 v1 v2
  rw [v1.1] at l1
  rw [v2.1] at l2
  refine ⟨fun _ _ => t.1, ?_, Int.le_refl _, Int.le_refl _, ?_⟩
  · show lowF nS (prsX a b) ≤ fsN x y
    rw [t.2]
    exact Int.le_trans l1 (by omega)
  · show fsN x y ≤ highF nS (prsX a b)
    rw [t.2]
    exact Int.le_trans (by omega) l2

theorem lin (l h t k : Int) (h1 : l ≤ t) (h2 : t ≤ h) : (l * k ≤ t * k ∨ h * k ≤ t * k) ∧ (t * k ≤ l * k ∨ t * k ≤ h * k) := by
  rcases Int.le_total 0 k with hk | hk
  · exact ⟨.inl (Int.mul_le_mul_of_nonneg_right h1 hk), .inr (Int.mul_le_mul_of_nonneg_right h2 hk)⟩
  · exact ⟨.inr (Int.mul_le_mul_of_nonpos_right h2 hk), .inl (Int.mul_le_mul_of_nonpos_right h1 hk)⟩
theorem corners {a b : En} {x y : Int} (hx : inB a x) (hy : inB b y) : (∃ p ∈ prs4 a b, p.1 * p.2 ≤ x * y) ∧ (∃ p ∈ prs4 a b, x * y ≤ p.1 * p.2) := by
  have m1 : (a.l, b.l) ∈ prs4 a b := by simp [prs4]
  have m2 : (a.l, b.h) ∈ prs4 a b := by simp [prs4]
  have m3 : (a.h, b.l) ∈ prs4 a b := by simp [prs4]
  have m4 : (a.h, b.h) ∈ prs4 a b := by simp [prs4]
  have ky := lin b.l b.h y x hy.1 hy.2
  rw [Int.mul_comm y x, Int.mul_comm b.l x, Int.mul_comm b.h x] at ky
  have kl := lin a.l a.h x b.l hx.1 hx.2
  have kh := lin a.l a.h x b.h hx.1 hx.2
  constructor
  · rcases ky.1 with h | h
    · rcases kl.1 with k | k
      · exact ⟨_, m1, Int.le_trans k h⟩
      · exact ⟨_, m3, Int.le_trans k h⟩
    · rcases kh.1 with k | k
      · exact ⟨_, m2, Int.le_trans k h⟩
      · exact ⟨_, m4, Int.le_trans k h⟩
  · rcases ky.2 with h | h
    · rcases kl.2 with k | k
      · exact ⟨_, m1, Int.le_trans h k⟩
      · exact ⟨_, m3, Int.le_trans h k⟩
    · rcases kh.2 with k | k
      · exact ⟨_, m2, Int.le_trans h k⟩
      · exact ⟨_, m4, Int.le_trans h k⟩
theorem hold_mul {a b : En} (ha : fineB a = true) (hb : fineB b = true) (ho : okF fmB (prs4 a b) = true) {x y : Int} (hx : inB a x) (hy : inB b y) : Hold fmN fmB (prs4 a b) x y := by
  obtain ⟨⟨p, mp, kp⟩, ⟨q, mq, kq⟩⟩ := corners hx hy
  have vp := fm_inv (ok_at ho mp).1
  have vq := fm_inv (ok_at ho mq).2
  have o := rnd_order (x * y) 16777216 (by decide)
  have r1 := rnd_mono _ _ 16777216 1 (by decide) kp
  have r2 := rnd_mono _ _ 16777216 2 (by decide) kq
  have f1 := frB_iff.1 vp.2.2.2
  have f2 := frB_iff.1 vq.2.2.2
  have t : ∀ m, MD m → fmB x y m = true ∧ fmN x y m = rnd (x * y) 16777216 m := by
    intro m hm
    refine fm_told (in_fr ha hx) (in_fr hb hy) hm (frB_eq ?_)
    rcases hm with rfl | rfl | rfl <;> omega
  have l1 := low_le (N := fmN) mp
  have l2 := le_high (N := fmN) mq
  rw [vp.2.2.1] at l1
  rw [vq.2.2.1] at l2
  refine ⟨fun m hm => (t m hm).1, ?_, ?_, ?_, ?_⟩
  · rw [(t 1 (.inr (.inl rfl))).2]; omega
  · rw [(t 1 (.inr (.inl rfl))).2, (t 0 (.inl rfl)).2]; omega
  · rw [(t 0 (.inl rfl)).2, (t 2 (.inr (.inr rfl))).2]; omega
  · rw [(t 2 (.inr (.inr rfl))).2]; omega

/-- Quotients by numbers above 0: which of the bounds' is not above, and not below. -/
theorem quots (al ah bl bh x y : Int) (h0 : 0 < bl) (h1 : al ≤ x) (h2 : x ≤ ah) (h3 : bl ≤ y) (h4 : y ≤ bh) :
    (al * y ≤ x * bl ∨ al * y ≤ x * bh) ∧ (x * bl ≤ ah * y ∨ x * bh ≤ ah * y) := by
  constructor
  · rcases Int.le_total 0 al with h | h
    · right
      exact Int.le_trans (Int.mul_le_mul_of_nonneg_left h4 h) (Int.mul_le_mul_of_nonneg_right h1 (by omega))
    · left
      exact Int.le_trans (Int.mul_le_mul_of_nonpos_left h h3) (Int.mul_le_mul_of_nonneg_right h1 (by omega))
  · rcases Int.le_total 0 ah with h | h
    · left
      exact Int.le_trans (Int.mul_le_mul_of_nonneg_right h2 (by omega)) (Int.mul_le_mul_of_nonneg_left h3 h)
    · right
      exact Int.le_trans (Int.mul_le_mul_of_nonneg_right h2 (by omega)) (Int.mul_le_mul_of_nonpos_left h h4)
theorem scl {p q r s : Int} (h : p * q ≤ r * s) : p * 16777216 * q ≤ r * 16777216 * s := by
  rw [Int.mul_right_comm p, Int.mul_right_comm r]
  exact Int.mul_le_mul_of_nonneg_right h (by decide)
theorem qcorners {a b : En} {x y : Int} (hz : zeroB b = false) (hx : inB a x) (hy : inB b y) :
    (∃ p ∈ prs4 a b, qn p.1 p.2 * szI y ≤ qn x y * szI p.2) ∧ (∃ p ∈ prs4 a b, qn x y * szI p.2 ≤ qn p.1 p.2 * szI y) := by
  have m1 : (a.l, b.l) ∈ prs4 a b := by simp [prs4]
  have m2 : (a.l, b.h) ∈ prs4 a b := by simp [prs4]
  have m3 : (a.h, b.l) ∈ prs4 a b := by simp [prs4]
  have m4 : (a.h, b.h) ∈ prs4 a b := by simp [prs4]
  unfold inB at hx hy
  have hside : 0 < b.l ∨ b.h < 0 := by
    unfold zeroB at hz
    rw [Bool.and_eq_false_iff] at hz
    rcases hz with h | h
    · have := of_decide_eq_false h; omega
    · have := of_decide_eq_false h; omega
  rcases hside with h0 | h0
  · have e1 : ∀ z, qn z b.l = z * 16777216 := fun z => qn_pos (by omega)
    have e2 : ∀ z, qn z b.h = z * 16777216 := fun z => qn_pos (by omega)
    have e3 : qn x y = x * 16777216 := qn_pos (by omega)
    have s1 : szI b.l = b.l := szI_pos' (by omega)
    have s2 : szI b.h = b.h := szI_pos' (by omega)
    have s3 : szI y = y := szI_pos' (by omega)
    have k := quots a.l a.h b.l b.h x y h0 hx.1 hx.2 hy.1 hy.2
    constructor
    · rcases k.1 with h | h
      · refine ⟨_, m1, ?_⟩; simp only [e1, e3, s1, s3]; exact scl h
      · refine ⟨_, m2, ?_⟩; simp only [e2, e3, s2, s3]; exact scl h
    · rcases k.2 with h | h
      · refine ⟨_, m3, ?_⟩; simp only [e1, e3, s1, s3]; exact scl h
      · refine ⟨_, m4, ?_⟩; simp only [e2, e3, s2, s3]; exact scl h
  · have e1 : ∀ z, qn z b.l = -z * 16777216 := fun z => qn_neg (by omega)
    have e2 : ∀ z, qn z b.h = -z * 16777216 := fun z => qn_neg (by omega)
    have e3 : qn x y = -x * 16777216 := qn_neg (by omega)
    have s1 : szI b.l = -b.l := szI_neg' (by omega)
    have s2 : szI b.h = -b.h := szI_neg' (by omega)
    have s3 : szI y = -y := szI_neg' (by omega)
    have k := quots (-a.h) (-a.l) (-b.h) (-b.l) (-x) (-y) (by omega) (by omega) (by omega) (by omega) (by omega)
    constructor
    · rcases k.1 with h | h
      · refine ⟨_, m4, ?_⟩; simp only [e2, e3, s2, s3]; exact scl h
      · refine ⟨_, m3, ?_⟩; simp only [e1, e3, s1, s3]; exact scl h
    · rcases k.2 with h | h
      · refine ⟨_, m2, ?_⟩; simp only [e2, e3, s2, s3]; exact scl h
      · refine ⟨_, m1, ?_⟩; simp only [e1, e3, s1, s3]; exact scl h
theorem szI_pp {b : Int} (h : b ≠ 0) : 0 < szI b := by unfold szI; split <;> omega
theorem hold_div {a b : En} (ha : fineB a = true) (hb : fineB b = true) (hz : zeroB b = false) (ho : okF fdB (prs4 a b) = true) {x y : Int} (hx : inB a x) (hy : inB b y) : Hold fdN fdB (prs4 a b) x y := by
  obtain ⟨⟨p, mp, kp⟩, ⟨q, mq, kq⟩⟩ := qcorners hz hx hy
  have vp := fd_inv (ok_at ho mp).1
  have vq := fd_inv (ok_at ho mq).2
  have y0 : y ≠ 0 := by
    unfold inB at hy
    unfold zeroB at hz
    rw [Bool.and_eq_false_iff] at hz
    rcases hz with h | h
    · have := of_decide_eq_false h; omega
    · have := of_decide_eq_false h; omega
  have sy := szI_pp y0
  have sp := szI_pp vp.2.2.1
  have sq := szI_pp vq.2.2.1
  have o := rnd_order (qn x y) (szI y) sy
  have r1 := rnd_cross _ _ _ _ 1 sp sy kp
  have r2 := rnd_cross _ _ _ _ 2 sy sq kq
  have f1 := frB_iff.1 vp.2.2.2.2
  have f2 := frB_iff.1 vq.2.2.2.2
  have t : ∀ m, MD m → fdB x y m = true ∧ fdN x y m = rnd (qn x y) (szI y) m := by
    intro m hm
    refine fd_told (in_fr ha hx) (in_fr hb hy) y0 hm (frB_eq ?_)
    rcases hm with rfl | rfl | rfl <;> omega
  have l1 := low_le (N := fdN) mp
  have l2 := le_high (N := fdN) mq
  rw [vp.2.2.2.1] at l1
  rw [vq.2.2.2.1] at l2
  refine ⟨fun m hm => (t m hm).1, ?_, ?_, ?_, ?_⟩
  · rw [(t 1 (.inr (.inl rfl))).2]; omega
  · rw [(t 1 (.inr (.inl rfl))).2, (t 0 (.inl rfl)).2]; omega
  · rw [(t 0 (.inl rfl)).2, (t 2 (.inr (.inr rfl))).2]; omega
  · rw [(t 2 (.inr (.inr rfl))).2]; omega
theorem fqB_told {a m : Int} (ha : frB a = true) (h0 : 0 ≤ a) (hm : MD m) : fqB a m = true := by
  obtain ⟨r, t, er, r0, r1, t0, ep, ea, ht2, x1, x2, x0⟩ := fq_vals a ha h0
  rcases hm with rfl | rfl | rfl
  · exact x0.2
  · exact x1.2
  · exact x2.2
theorem hold_root {a : En} (ha : fineB a = true) (ho : okF bQ (prs2 a a) = true) {x y : Int} (hx : inB a x) : Hold nQ bQ (prs2 a a) x y := by
  have m1 : (a.l, a.l) ∈ prs2 a a := by simp [prs2]
  have m2 : (a.h, a.h) ∈ prs2 a a := by simp [prs2]
  have v1 := (ok_at ho m1).1
  have v2 := (ok_at ho m2).2
  have l1 := low_le (N := nQ) m1
  have l2 := le_high (N := nQ) m2
  simp only [bQ, nQ] at v1 v2 l1 l2
  have k1 := fqB_ok v1
  have t : ∀ m, MD m → fqB x m = true := fun m hm => fqB_told (in_fr ha hx) (by unfold inB at hx; omega) hm
  have t1 := t 1 (.inr (.inl rfl))
  have t0 := t 0 (.inl rfl)
  have t2 := t 2 (.inr (.inr rfl))
  have o := fq_order x t1 t0 t2
  have r1 := fq_mono _ _ 1 hx.1 v1 t1
  have r2 := fq_mono _ _ 2 hx.2 t2 v2
  generalize hP : lowF nQ (prs2 a a) = P at *
  generalize hQ : highF nQ (prs2 a a) = Q at *
  refine ⟨?_, ?_, ?_, ?_, ?_⟩
  · intro m hm
    simp only [bQ]
    exact t m hm
  · rw [hP]; simp only [nQ]; omega
  · simp only [nQ]; omega
  · simp only [nQ]; omega
  · rw [hQ]; simp only [nQ]; omega
end Go.Proofs.YtljmggemdkfbiaaGreat
