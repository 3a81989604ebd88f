/- House's Fold, of an enclosed triangle of whole numbers of 3 rows at most, from -20 up to 20, 1 at least on the diagonal, tells what encloses it. Conditions: none (every input). -/
import Derived.Test.YtlbmkjicbkfmjaaGreatGI
import Derived.Test.YtlbmkjicbkfmjaaGreatGH
import Derived.Test.YtlbmkjicbkfmjaaGreatGB
import Derived.Test.YtlbmkjicbkfmjaaGreatGJ
import Derived.Test.YtlbmkjicbkfmjaaGreatWlr
import Derived.ProofKit
import Derived.OpenShut
import Derived.Carry
/- HouseRow: one row of whole numbers folds to the root of its square, whose square is told and encloses it. Mathematics; and Whole of enclosed numbers as a call. -/
namespace Go.Proofs.YtlbmkjicbkfmjaaGreat
open Go.RowKit
set_option linter.unusedSimpArgs false
set_option linter.unusedVariables false

theorem encl_enq8 {a : En} {n d : Int} (h : Enq a n d) (hn : Wh n) (hd : 1 ≤ d ∧ d ≤ 1073741824) (hb : a.bad = false) : enclB a n d = true := by
  rcases h with rfl | ⟨hf, h1, h2⟩
  · cases hb
  · have r1 : rightB n = true := by unfold rightB; simp; have := hn.1; have := hn.2; omega
    have r2 : rightB d = true := by unfold rightB; simp; omega
    unfold enclB withinB
    rw [hf, r1, r2]
    simp [h1, h2, hd.1]
theorem fm_small {x y m : Int} (hx : 0 ≤ x) (hx2 : x ≤ 5000000000) (hy : 0 ≤ y) (hy2 : y ≤ 5000000000) (hm : MD m) : fmB x y m = true := by
  have h0 : 0 ≤ x * y := Int.mul_nonneg hx hy
  have h1 : x * y ≤ 5000000000 * 5000000000 := Int.mul_le_mul hx2 hy2 hy (by omega)
  have a1 := rnd_mono 0 (x * y) 16777216 m (by decide) h0
  have a2 := rnd_mono (x * y) (5000000000 * 5000000000) 16777216 m (by decide) h1
  have z : rnd 0 16777216 m = 0 := by rcases hm with rfl | rfl | rfl <;> decide
  have t : rnd (5000000000 * 5000000000) 16777216 m ≤ 1490116119385 := by rcases hm with rfl | rfl | rfl <;> decide
  exact (fm_told (frB_eq ⟨by omega, by omega⟩) (frB_eq ⟨by omega, by omega⟩) hm (frB_eq ⟨by omega, by omega⟩)).1
theorem mul_small {v l h : Int} (h0 : 0 ≤ l) (h1 : l ≤ v) (h2 : v ≤ h) (h3 : h ≤ 5000000000) : (mulE ⟨v, l, h, false⟩ ⟨v, l, h, false⟩).bad = false := by
  have fa : fineB ⟨v, l, h, false⟩ = true := fineB_iff.2 ⟨rfl, h1, h2, show frB l = true from frB_eq ⟨by omega, by omega⟩, show frB h = true from frB_eq ⟨by omega, by omega⟩⟩
  have m0 : MD 0 := .inl rfl
  have m1 : MD 1 := .inr (.inl rfl)
  have m2 : MD 2 := .inr (.inr rfl)
  have ok : okE fmB ⟨v, l, h, false⟩ ⟨v, l, h, false⟩ (prs4 ⟨v, l, h, false⟩ ⟨v, l, h, false⟩) = true := okE_iff.2 ⟨show fmB v v 0 = true from fm_small (by omega) (by omega) (by omega) (by omega) m0, fa, fa, by
    unfold okF prs4
    simp only [List.all_cons, List.all_nil, Bool.and_true]
    rw [fm_small h0 (by omega) h0 (by omega) m1, fm_small h0 (by omega) h0 (by omega) m2, fm_small h0 (by omega) (show 0 ≤ h by omega) h3 m1, fm_small h0 (by omega) (show 0 ≤ h by omega) h3 m2, fm_small (show 0 ≤ h by omega) h3 h0 (by omega) m1, fm_small (show 0 ≤ h by omega) h3 h0 (by omega) m2, fm_small (show 0 ≤ h by omega) h3 (show 0 ≤ h by omega) h3 m1, fm_small (show 0 ≤ h by omega) h3 (show 0 ≤ h by omega) h3 m2]
    rfl⟩
  unfold mulE
  rw [told_ok ok]
theorem sq_sum : ∀ (xs : List Int), Sml 100 xs → 0 ≤ dotI xs xs ∧ dotI xs xs ≤ 10000 * xs.length
  | [], _ => ⟨by decide, by decide⟩
  | x :: xs, h => by
    have ih := sq_sum xs h.tail
    have hb := mul_bound h.head h.head
    have h0 : 0 ≤ x * x := by
      rcases Int.le_total 0 x with hx | hx
      · exact Int.mul_nonneg hx hx
      · exact Int.mul_nonneg_of_nonpos_of_nonpos hx hx
    have e : dotI (x :: xs) (x :: xs) = x * x + dotI xs xs := by unfold dotI; rw [List.zipWith_cons_cons, List.sum_cons]
    rw [e, List.length_cons]
    constructor
    · omega
    · have : ((xs.length + 1 : Nat) : Int) = (xs.length : Int) + 1 := by omega
      rw [this]
      omega
theorem dotI_snoc8 : ∀ (xs : List Int) (x : Int), dotI (xs ++ [x]) (xs ++ [x]) = dotI xs xs + x * x
  | [], x => by show x * x + 0 = 0 + x * x; omega
  | y :: ys, x => by
    have ih := dotI_snoc8 ys x
    have e : ∀ (a : Int) (l : List Int), dotI (a :: l) (a :: l) = a * a + dotI l l := fun a l => by unfold dotI; rw [List.zipWith_cons_cons, List.sum_cons]
    rw [List.cons_append, e, e, ih]
    omega
/-- What one row folds to. -/
theorem row8 {m : Nat} {f : Nat → Nat → En} {xs : List Int} (ht : tailH m 0 (f 0) = xs.map itN) (hs : Sml 100 xs) (hl : xs.length ≤ 8) :
    ∃ x, foldN 1 m f 0 0 = x ∧ x.bad = false ∧ lowN x = false ∧ enclB (mulE x x) (dotI xs xs) 1 = true := by
  obtain ⟨D, hD⟩ : ∃ D, D = dotI xs xs := ⟨_, rfl⟩
  obtain ⟨d0, d1⟩ := sq_sum xs hs
  rw [← hD] at d0 d1 ⊢
  have d2 : D ≤ 80000 := by omega
  have hdot : dotN (tailH m 0 (f 0)) (tailH m 0 (f 0)) = itN D := by
    rw [ht, dotN_it (fun x hx => by have := hs x hx; omega) (fun x hx => by have := hs x hx; omega) (by omega), hD]
  obtain ⟨p, hp⟩ : ∃ p, p = (if lowN (f 0 0) = true then rootE (itN D) else negE (rootE (itN D))) := ⟨_, rfl⟩
  have hp1 : foldL kdN lowN m f 1 0 0 = p := by
    show foldStep kdN m 0 (lowN (f 0 0)) f 0 0 = _
    unfold foldStep
    rw [if_pos rfl, if_pos rfl, hp]
    unfold pH
    show (if lowN (f 0 0) = true then rootE (dotN (tailH m 0 (f 0)) (tailH m 0 (f 0))) else negE (rootE (dotN (tailH m 0 (f 0)) (tailH m 0 (f 0))))) = _
    rw [hdot]
  have hS : foldN 1 m f 0 0 = if lowN p = true then negE p else p := by
    unfold foldN signsH
    by_cases hlo : lowN p = true
    · rw [if_pos ⟨Nat.le_refl _, by show lowN (foldL kdN lowN m f 1 0 0) = true; rw [hp1]; exact hlo⟩, if_pos hlo, hp1]
      rfl
    · rw [if_neg (fun h => hlo (by have h2 : lowN (foldL kdN lowN m f 1 0 0) = true := h.2; rw [hp1] at h2; exact h2)), if_neg hlo, hp1]
  by_cases hz : 1 ≤ D
  · obtain ⟨v, l, h, e1, a1, a2, a3, a4, e2⟩ := row_signs hz d2 (lowN (f 0 0))
    rw [← hp] at e2
    rw [e2] at hS
    refine ⟨_, hS, by rw [e1], ?_, encl_enq8 (row_square hz d2 (by rw [e1]; exact mul_small (by omega) a2 a3 a4)) ⟨by omega, by omega⟩ ⟨by omega, by omega⟩ (by rw [e1]; exact mul_small (by omega) a2 a3 a4)⟩
    rw [e1]
    unfold lowN
    refine decide_eq_false ?_
    show ¬ cmpI v 0 < 0
    unfold cmpI
    split <;> omega
  · have : D = 0 := by omega
    subst this
    have r0 : rootE (itN 0) = itN 0 := rootN_it (s := 0) (by omega) (by omega)
    have n0 : negE (itN 0) = itN 0 := negN_it ⟨by omega, by omega⟩
    have hp0 : p = itN 0 := by rw [hp, r0, n0]; split <;> rfl
    have l0 : lowN (itN 0) = false := by rw [lowN_it]; rfl
    rw [hp0, l0, if_neg nofun] at hS
    refine ⟨_, hS, rfl, l0, ?_⟩
    rw [mulN_it ⟨by omega, by omega⟩ ⟨by omega, by omega⟩ ⟨by omega, by omega⟩]
    exact encl_it ⟨by omega, by omega⟩
theorem whole8N_call (R C : Nat) (p : Option Addr) (n cap : Nat) (ns : List Int) (w : World) (hr : Rq 1 cI w (.slice p n cap) ns) (hd : Dim R C) (hn : n = R * C) (hl : ns.length = n) :
    Calls Tryz.prog 21 #[.int .i64 R, .int .i64 C, .slice p n cap] w fun e w' => ∃ p' cap', e = .returned (.tuple #[mV R C p' n cap', .bool true]) ∧ Mx 4 cellsN w' R C p' n cap' (fun i k => wholeN (ofL C ns i k)) ∧ Bl w w' := by
  refine (mWholeN R C p n cap ns w hr (fitB_dim hd hn) hl).mono ?_
  rintro e w' ⟨p', cap', rfl, hR, hb⟩
  refine ⟨p', cap', rfl, ⟨hd, hn, ?_⟩, hb⟩
  have e := ofL_mk (R := R) (M := C) (ns := ns) (by rw [hl, hn])
  rw [e, mk_map] at hR
  exact hR.q
end Go.Proofs.YtlbmkjicbkfmjaaGreat

/- HouseTwice: what an enclosed triangle of whole numbers folds to, as Fold tells it, encloses it. Mathematics. -/
namespace Go.Proofs.YtlbmkjicbkfmjaaGreat
open Go.RowKit
set_option linter.unusedSimpArgs false
set_option linter.unusedVariables false

theorem twice8 {n : Nat} {s : Nat → Nat → Int} (hn : n ≤ 16) (hs : Sm2 100 n n s) (hl : Low 0 s) (hd : ∀ k, k < n → 0 < s k k) {i j : Nat} (hi : i < n) (hj : j < n)
    (hb : (foldN n n (fun i k => wholeN (s i k)) i j).bad = false) : enclB (foldN n n (fun i k => wholeN (s i k)) i j) (s i j) 1 = true := by
  have hlow := tri_low hn hs hl hd n (Nat.le_refl _)
  have e : foldN n n (fun i k => wholeN (s i k)) i j = foldH kdN n n (fun _ => false) (fun j => lowN (foldTo kdN n (fun _ => false) (fun i j => wholeN (s i j)) n j j)) (fun i j => wholeN (s i j)) i j := by
    unfold foldN
    rw [hlow]
    unfold foldH
    by_cases h : i < j
    · rw [if_pos h]
      unfold signsH
      rw [if_neg (by omega)]
      exact foldTo_zero kdN n _ _ hi h
    · rw [if_neg h]
  rw [e] at hb ⊢
  have hij := hs i j hi hj
  exact encl_enq8 (house_twice hn hs hl hd hi hj hb) ⟨by omega, by omega⟩ ⟨by omega, by omega⟩ hb
end Go.Proofs.YtlbmkjicbkfmjaaGreat

/- The walk of HouseTwice. Written by genHt.py. -/
namespace Go.Proofs.YtlbmkjicbkfmjaaGreat
open Go.RowKit
set_option linter.unusedSimpArgs false
set_option linter.unusedVariables false

/-- What is left of a square where the first i rows, and k numbers of one more, have 0 above the diagonal. -/
def clr8 (i k : Nat) (a : Nat → Nat → Int) (x y : Nat) : Int := if x < y ∧ (x < i ∨ (x = i ∧ y < k)) then 0 else a x y
theorem clr8_put {i k : Nat} (h : i < k) (a : Nat → Nat → Int) : putM (clr8 i k a) i k 0 = clr8 i (k + 1) a := by
  funext x y
  unfold putM clr8
  by_cases e : x = i ∧ y = k
  · rw [if_pos e, if_pos (by omega)]
  · rw [if_neg e]
    by_cases e2 : x < y ∧ (x < i ∨ (x = i ∧ y < k))
    · rw [if_pos e2, if_pos (by omega)]
    · rw [if_neg e2, if_neg (by omega)]
theorem clr8_skip {i k : Nat} (h : k ≤ i) (a : Nat → Nat → Int) : clr8 i k a = clr8 i (k + 1) a := by
  funext x y
  unfold clr8
  by_cases e2 : x < y ∧ (x < i ∨ (x = i ∧ y < k))
  · rw [if_pos e2, if_pos (by omega)]
  · rw [if_neg e2, if_neg (by omega)]
theorem ofL_mk8 {R C : Nat} (f : Nat → Nat → Int) {i k : Nat} (hi : i < R) (hk : k < C) : ofL C (mk R C f) i k = f i k := by
  have h := ofL_get (R := R) (M := C) (ns := mk R C f) (by rw [mk_len]) hi hk
  rw [mk_get f hi hk] at h
  exact (Option.some.inj h).symm
/-- What is left of it at the end. -/
def low8 (a : Nat → Nat → Int) (x y : Nat) : Int := if x < y then 0 else a x y
theorem low8_clr (a : Nat → Nat → Int) {m x y : Nat} (hx : x < m) : low8 a x y = clr8 m 0 a x y := by
  unfold low8 clr8
  by_cases e : x < y
  · rw [if_pos e, if_pos ⟨e, .inl hx⟩]
  · rw [if_neg e, if_neg (fun h => e h.1)]
theorem clr8_next (a : Nat → Nat → Int) {m i x y : Nat} (hy : y < m) : clr8 (i + 1) 0 a x y = clr8 i m a x y := by
  unfold clr8
  by_cases e : x < y ∧ (x < i ∨ (x = i ∧ y < m))
  · rw [if_pos e, if_pos (by omega)]
  · rw [if_neg e, if_neg (by omega)]
theorem rwz_cell {w : World} {lo g n cap : Nat} {xs : List Int} (h : RwZ 1 cellsI w lo (.slice (some ⟨g, 0, none⟩) n cap) xs) {q : Nat} {x : Int} (hq : xs[q]? = some x) : w.cell? ⟨g, q, none⟩ = some (.int .i64 x) ∧ w.frozen? ⟨g, q, none⟩ = false := by
  obtain ⟨b, cap', e, _, _, _, hf, hx⟩ := h
  simp only [Value.slice.injEq, Option.some.injEq, Addr.mk.injEq] at e
  obtain ⟨⟨rfl, _⟩, rfl, rfl⟩ := e
  exact ⟨by have := hx q x hq 0 (.int .i64 x) rfl; simpa using this, hf q⟩
theorem idx8t {R j : Nat} (h : j < R * R) : ∃ i k, i < R ∧ k < R ∧ j = i * R + k := by
  have h0 : 0 < R := by
    rcases Nat.eq_zero_or_pos R with e | e
    · subst e; simp at h
    · exact e
  exact ⟨j / R, j % R, (Nat.div_lt_iff_lt_mul h0).2 h, Nat.mod_lt _ h0, by rw [Nat.mul_comm]; exact (Nat.div_add_mod j R).symm⟩
set_option maxRecDepth 100000 in
set_option maxHeartbeats 4000000 in
theorem walk_HouseTwice (va : Value) (xa : List Int) (n : Int) (w : World) (ha : Rq 1 cI w va xa) :
    Calls Tryz.prog 8 #[va, .int .i64 n] w fun e w' => e = .returned (.bool true) ∧ Bl w w' := by
  have AW := hideP awake8_any
  obtain ⟨j0, hji, jz0, jz1, jz2⟩ := info_parts Tryz.info_I
  have hcut := ha.cut
  obtain ⟨pa, ca, rfl, hlc, _⟩ := hcut
  obtain ⟨la, hla⟩ : ∃ la, la = xa.length := ⟨_, rfl⟩
  rw [← hla] at ha hlc ⊢
  have HLA := hideP hla
  by_cases hn1 : n < 1
  · go_enter Tryz.func8, Tryz.ntmps8
    go_wp2_with fail
    refine (AW.out _).mono ?_
    rintro e w99 ⟨rfl, h99⟩
    go_wp2
    go_ret
    exact ⟨rfl, (Bl.refl _).trans h99⟩
  by_cases hn3 : 3 < n
  · go_enter Tryz.func8, Tryz.ntmps8
    go_wp2_with fail
    refine (AW.out _).mono ?_
    rintro e w99 ⟨rfl, h99⟩
    go_wp2
    go_ret
    exact ⟨rfl, (Bl.refl _).trans h99⟩
  obtain ⟨m, rfl⟩ := Int.eq_ofNat_of_zero_le (show 0 ≤ n by omega)
  have m1 : 1 ≤ m := by omega
  have m3 : m ≤ 3 := by omega
  obtain ⟨mm, hmm⟩ : ∃ mm, mm = m * m := ⟨_, rfl⟩
  have hMM : (m : Int) * (m : Int) = (mm : Int) := by rw [hmm, Int.natCast_mul]
  have mm9 : mm ≤ 9 := by rw [hmm]; exact Nat.mul_le_mul m3 m3
  have mm1 : 1 ≤ mm := by rw [hmm]; exact Nat.mul_pos m1 m1
  have HMM := hideP hmm
  by_cases hl : la = mm
  · subst hl
    rcases ha with ⟨p, cap, e0, e1, _⟩ | ⟨b, o, cap, e0, hc, hb, hx⟩
    · rw [e1] at hla; simp at hla; omega
    · simp only [Value.slice.injEq] at e0
      obtain ⟨rfl, hle, rfl⟩ := e0
      clear hle
      have HX0 := hideP hx
      obtain ⟨news, hnews⟩ : ∃ news, news = xa.flatMap cellsI := ⟨_, rfl⟩
      have nl : news.length = la * 1 := by rw [hnews, flat_len (s := 1) (fun _ => rfl), ← HLA.out]
      have none1 : ∀ u ∈ news, u.oneCell' = true := by rw [hnews]; exact flat_one (fun x u hu => by simp [cellsI] at hu; subst hu; rfl) _
      have NS := hideP (show ∀ (j : Nat) u, news[j]? = some u → (w.alloc (.cells #[] 3)).cell? ((⟨b, o, none⟩ : Addr).add j) = some u from by rw [hnews]; exact flat_cells (s := 1) (fun _ => rfl) (Rw_cells_later hx hb ((Bl.refl _).alloc _)))
      have HNS := hideP hnews
      clear hx hla hmm hnews hn1 hn3
      go_enter Tryz.func8, Tryz.ntmps8
      go_wp2_with (at_builtin; refine wpList_append_own _ rfl _ _ 50 rfl w.heap.size 3 j0 (.int .i64 0) 1 8 Tryz.underlying50 hji jz0 jz1 jz2 rfl (by decide) _ 0 [] rfl (World.ownsRow_made w #[] 0 (Nat.le_refl _) (by decide) rfl) ⟨b, o, none⟩ la ca news rfl nl NS.out none1 (by unfold maxLen; omega) (by omega) (by simp) ?_; intro v' w1 hown' hgrow _)
      have hz1 : RwZ 1 cellsI w1 w.heap.size v' xa := RwZ.of_own (s := 1) (c := cellsI) (fun _ => rfl) (by rw [← HLA.out]; have := hown'; rw [HNS.out] at this; simpa using this) (by intro e; have := HLA.out; rw [e] at this; simp at this; omega)
      have B1 : Bl w w1 := Below.grown (Below.alloc (Bl.refl w) (Nat.le_refl _) _) hgrow (by simp) (fun k e => by cases e; exact Nat.le_refl _)
      obtain ⟨g, cg, ev, _⟩ := id hz1
      rw [← HLA.out] at ev
      subst ev
      have hg1 : w.heap.size ≤ g := by
        obtain ⟨g', c', e, _, h, _⟩ := hz1
        simp only [Value.slice.injEq, Option.some.injEq, Addr.mk.injEq] at e
        omega
      obtain ⟨a, haa⟩ : ∃ a, a = ofL m xa := ⟨_, rfl⟩
      have HZ := hideP (show RwZ 1 cellsI w1 w.heap.size (.slice (some ⟨g, 0, none⟩) la cg) (mk m m (clr8 0 0 a)) by
        rw [mk_congr (fun x y _ _ => show clr8 0 0 a x y = a x y from if_neg (by omega)), haa, ← ofL_mk (by rw [← HLA.out]; exact HMM.out)]
        exact hz1)
      clear hown' hgrow hz1 haa
      go_wp2_with fail
      go_loopw [33] (fun v wr => ∃ i : Nat, v = .int .i64 i ∧ i ≤ m ∧ RwZ 1 cellsI wr w.heap.size (.slice (some ⟨g, 0, none⟩) la cg) (mk m m (clr8 i 0 a)) ∧ Bl w wr ∧ (∀ x y, x < i → y < m → -20 ≤ low8 a x y ∧ low8 a x y ≤ 20) ∧ ∀ x, x < i → 1 ≤ a x x) (fun v _ => m - (intOf v).toNat)
      case atStart => exact ⟨0, rfl, Nat.zero_le _, HZ.out, B1, fun x y h => by omega, fun x h => by omega⟩
      case round =>
        obtain ⟨i, rfl, hi, hz, bz, hall, hdg⟩ := hrel
        obtain ⟨wq, hwq⟩ : ∃ wq : World, wq = wr := ⟨_, rfl⟩
        subst hwq
        have HALL := hideP hall
        have HDG := hideP hdg
        have HZI := hideP hz
        clear hall hdg hz HZ B1
        by_cases hlt : i < m
        · obtain ⟨im, him⟩ : ∃ im, im = i * m := ⟨_, rfl⟩
          have hIM : (i : Int) * (m : Int) = (im : Int) := by rw [him, Int.natCast_mul]
          have him6 : im + m ≤ la := by
            rw [him, HMM.out]
            have := Nat.mul_le_mul_right m (show i + 1 ≤ m by omega)
            rw [Nat.add_mul] at this
            omega
          have HIM := hideP him
          clear him
          go_wp2_with fail
          go_loopw [37] (fun v wr => ∃ k : Nat, v = .int .i64 k ∧ k ≤ m ∧ RwZ 1 cellsI wr w.heap.size (.slice (some ⟨g, 0, none⟩) la cg) (mk m m (clr8 i k a)) ∧ Bl w wr ∧ (∀ y, y < k → -20 ≤ low8 a i y ∧ low8 a i y ≤ 20)) (fun v _ => m - (intOf v).toNat)
          case atStart => exact ⟨0, rfl, Nat.zero_le _, HZI.out, bz, fun y h => by omega⟩
          case round =>
            obtain ⟨k, rfl, hk, hy, bk, hrow⟩ := hrel
            have HROW := hideP hrow
            have HY := hideP hy
            have hcell := fun q x (hq : (mk m m (clr8 i k a))[q]? = some x) => rwz_cell hy hq
            clear hrow hy bz
            by_cases hkm : k < m
            · have hq : im + k < la := by omega
              have c0 := (hcell (im + k) _ (by rw [HIM.out]; exact mk_get _ hlt hkm)).1
              have f0 := (hcell (im + k) _ (by rw [HIM.out]; exact mk_get _ hlt hkm)).2
              clear hcell
              by_cases hik : i < k
              · have HZ2 := hideP (show RwZ 1 cellsI (wr.setCell ⟨g, im + k, none⟩ (.int .i64 0)) w.heap.size (.slice (some ⟨g, 0, none⟩) la cg) (mk m m (clr8 i (k + 1) a)) by
                  have := RwZ.putAt (s := 1) (c := cellsI) (fun _ => rfl) HY.out (q := im + k) (by rw [mk_len, HIM.out]; exact mk_idx hlt hkm) (0 : Int)
                  rw [HIM.out, mk_put hlt hkm, clr8_put hik, ← HIM.out, Nat.mul_one] at this
                  exact this)
                have b2 : Bl w (wr.setCell ⟨g, im + k, none⟩ (.int .i64 0)) := Bl.set bk hg1 _
                have hikI : (k : Int) > (i : Int) := by omega
                have c2 : (wr.setCell ⟨g, im + k, none⟩ (.int .i64 0)).cell? ⟨g, im + k, none⟩ = some (.int .i64 0) := by simp [go_sem, c0]
                clear HY
                go_wp2_with fail
                go_roundw
                case rel => exact ⟨k + 1, by simp, hkm, HZ2.out, b2, fun y hy => by
                  by_cases hyk : y < k
                  · exact HROW.out y hyk
                  · obtain rfl : y = k := by omega
                    unfold low8
                    rw [if_pos hik]
                    omega⟩
                case measure => simp [intOf]; omega
              · have hikI : ¬ (k : Int) > (i : Int) := by omega
                have e0 : clr8 i k a i k = a i k := by unfold clr8; rw [if_neg (by omega)]
                rw [e0] at c0
                obtain ⟨x, hx⟩ : ∃ x, x = a i k := ⟨_, rfl⟩
                rw [← hx] at c0
                have HX := hideP hx
                clear hx
                by_cases hlo : x < -20
                · clear HY
                  go_wp2_with fail
                  refine (AW.out _).mono ?_
                  rintro e w99 ⟨rfl, h99⟩
                  go_wp2
                  go_ret
                  exact ⟨rfl, bk.trans h99⟩
                · by_cases hhi : 20 < x
                  · clear HY
                    go_wp2_with fail
                    refine (AW.out _).mono ?_
                    rintro e w99 ⟨rfl, h99⟩
                    go_wp2
                    go_ret
                    exact ⟨rfl, bk.trans h99⟩
                  · go_wp2_with fail
                    go_roundw
                    case rel => exact ⟨k + 1, by simp, hkm, by rw [← clr8_skip (by omega)]; exact HY.out, bk, fun y hy => by
                      by_cases hyk : y < k
                      · exact HROW.out y hyk
                      · obtain rfl : y = k := by omega
                        unfold low8
                        rw [if_neg (by omega), ← HX.out]
                        omega⟩
                    case measure => simp [intOf]; omega
            · obtain rfl : k = m := by omega
              have hq : im + i < la := by omega
              have c0 := (hcell (im + i) _ (by rw [HIM.out]; exact mk_get _ hlt hlt)).1
              have e0 : clr8 i k a i i = a i i := by unfold clr8; rw [if_neg (by omega)]
              rw [e0] at c0
              clear hcell
              obtain ⟨x, hx⟩ : ∃ x, x = a i i := ⟨_, rfl⟩
              rw [← hx] at c0
              have HX := hideP hx
              clear hx
              by_cases hlo : x < 1
              · clear HY
                go_wp2_with fail
                refine (AW.out _).mono ?_
                rintro e w99 ⟨rfl, h99⟩
                go_wp2
                go_ret
                exact ⟨rfl, bk.trans h99⟩
              · go_wp2_with fail
                go_roundw
                case rel => exact ⟨i + 1, by simp, hlt, by rw [mk_congr (fun x y _ hy => show clr8 (i + 1) 0 a x y = clr8 i k a x y from clr8_next a hy)]; exact HY.out, bk, fun x y hx hy => by
                  by_cases hxi : x < i
                  · exact HALL.out x y hxi hy
                  · obtain rfl : x = i := by omega
                    exact HROW.out y hy, fun z hz => by
                  by_cases hzi : z < i
                  · exact HDG.out z hzi
                  · obtain rfl : z = i := by omega
                    rw [← HX.out]
                    omega⟩
                case measure => simp [intOf]; omega
        · obtain rfl : i = m := by omega
          obtain ⟨s, hs⟩ : ∃ s, s = low8 a := ⟨_, rfl⟩
          have HZS := hideP (show RwZ 1 cellsI wq w.heap.size (.slice (some ⟨g, 0, none⟩) la cg) (mk i i s) by
            rw [hs, mk_congr (fun x y hx _ => show low8 a x y = clr8 i 0 a x y from low8_clr a hx)]
            exact HZI.out)
          have SM := hideP (show Sm2 100 i i s from fun x y hx hy => by have := HALL.out x y hx hy; rw [hs]; omega)
          have SL := hideP (show Low 0 s from fun x y h => by rw [hs]; unfold low8; rw [if_pos h])
          have SD := hideP (show ∀ k, k < i → 0 < s k k from fun k hk => by have := HDG.out k hk; rw [hs]; unfold low8; rw [if_neg (by omega)]; omega)
          have HDM := hideP (show Dim i i from ⟨by omega, by omega, by omega, by omega⟩)
          obtain ⟨m, rfl⟩ : ∃ m, m = i := ⟨_, rfl⟩
          clear HZI HALL HDG hs
          have WH := hideP (whole8N_call m m (some ⟨g, 0, none⟩) la cg (mk m m s) wq HZS.out.rw.q HDM.out HMM.out (by rw [mk_len, HMM.out]))
          go_wp2_with fail
          refine WH.out.mono ?_
          rintro e w4 ⟨p4, c4, rfl, hx4, h4⟩
          have HX4 := hideP (show Mx 4 cellsN w4 m m p4 la c4 (fun i k => wholeN (s i k)) from hx4.congr fun x y hx hy => by rw [ofL_mk8 _ hx hy])
          clear hx4 WH
          obtain ⟨W4, hW4⟩ : ∃ W4, W4 = w4.alloc (.cells #[.int .i64 m, .int .i64 m, .slice p4 la c4] 24) := ⟨_, rfl⟩
          have b4 : Bl w4 W4 := by rw [hW4]; exact (Bl.refl _).alloc _
          have FO := hideP (hFoldAllN m m p4 la c4 _ W4 (HX4.out.later b4) (Nat.le_refl _))
          rw [← HMM.out] at FO
          go_wp2_with fail
          rw [← hW4]
          have HW4 := hideP hW4
          clear hW4 HX4
          refine FO.out.mono ?_
          rintro e w5 ⟨p5, c5, rfl, hx5, h5⟩
          obtain ⟨E, hE⟩ : ∃ E, E = foldN m m (fun i k => wholeN (s i k)) := ⟨_, rfl⟩
          rw [← hE] at hx5
          have hEN : ∀ i k, i < m → k < m → (E i k).bad = false → enclB (E i k) (s i k) 1 = true := fun i k hi hk hb => by
            rw [hE] at hb ⊢
            exact twice8 (by have := HDM.out.r2; omega) SM.out SL.out SD.out hi hk hb
          obtain ⟨g8, o8, hp8, _, hg8, CE⟩ := hx5.cells
          subst hp8
          have HEN := hideP hEN
          have HCE := hideP CE
          clear hx5 hE hEN CE FO
          obtain ⟨W5, hW5⟩ : ∃ W5, W5 = w5.alloc (.cells #[.int .i64 m, .int .i64 m, .slice (some ⟨g8, o8, none⟩) la c5] 24) := ⟨_, rfl⟩
          have b5 : Bl w5 W5 := by rw [hW5]; exact (Bl.refl _).alloc _
          have k5 := MBox.new w5 m m (some ⟨g8, o8, none⟩) la c5 24
          rw [← hW5] at k5
          have bq5 : Bl wq W5 := h4.trans (b4.trans (h5.trans b5))
          have B5 : Bl w W5 := bz.trans bq5
          obtain ⟨y0, y1, y2, _, _, _, lt5⟩ := id k5
          rw [hW5] at y0 y1 y2
          go_wp2_with fail
          rw [← hW5]
          have HW5 := hideP hW5
          clear hW5 y0 y1 y2
          go_loopw [109] (fun v wr => ∃ t : Nat, v = .int .i64 t ∧ t ≤ la ∧ Bl W5 wr) (fun v _ => la - (intOf v).toNat)
          case atStart => exact ⟨0, rfl, Nat.zero_le _, Bl.refl _⟩
          case round =>
            obtain ⟨t, rfl, ht, bl⟩ := hrel
            by_cases hlt2 : t < la
            · obtain ⟨i, k, hi, hk, hijk⟩ : ∃ i k, i < m ∧ k < m ∧ i * m + k = t := by
                obtain ⟨i, k, h1, h2, h3⟩ := idx8t (R := m) (j := t) (by rw [← HMM.out]; exact hlt2)
                exact ⟨i, k, h1, h2, h3.symm⟩
              have CX := fun a u hu => (bl_cell (b5.trans bl) _ _ hg8).trans (HCE.out i k hi hk a u hu)
              have cy0 := fun u (hu : Bl wq u) => (rwz_cell (HZS.out.later hu) (mk_get s hi hk)).1
              rw [hijk] at CX cy0
              obtain ⟨y, hy⟩ : ∃ y, y = E i k := ⟨_, rfl⟩
              obtain ⟨v, hv⟩ : ∃ v, v = s i k := ⟨_, rfl⟩
              rw [← hy] at CX
              rw [← hv] at cy0
              have henc := HEN.out i k hi hk
              rw [← hy, ← hv] at henc
              have x0 : wr.cell? ⟨g8, o8 + t * 4, none⟩ = some (.int .i64 y.v) := by simpa using CX 0 _ rfl
              have x1 : wr.cell? ⟨g8, o8 + t * 4 + 1, none⟩ = some (.int .i64 y.l) := by simpa using CX 1 _ rfl
              have x2 : wr.cell? ⟨g8, o8 + t * 4 + 2, none⟩ = some (.int .i64 y.h) := by simpa using CX 2 _ rfl
              have x3 : wr.cell? ⟨g8, o8 + t * 4 + 3, none⟩ = some (.bool y.bad) := by simpa using CX 3 _ rfl
              obtain ⟨X, hX⟩ : ∃ X, X = wr.alloc (.cells #[.int .i64 y.v, .int .i64 y.l, .int .i64 y.h, .bool y.bad] 28) := ⟨_, rfl⟩
              have bX : Bl wr X := by rw [hX]; exact (Bl.refl _).alloc _
              have BX : Box X wr.heap.size y := by rw [hX]; exact Box.new wr y _
              have z0 := fun z : Wl X => (BX.later z.bl).c0
              have z1 := fun z : Wl X => (BX.later z.bl).c1
              have z2 := fun z : Wl X => (BX.later z.bl).c2
              have z3 := fun z : Wl X => (BX.later z.bl).c3
              have y0 := fun z : Wl X => cy0 z.w (bq5.trans (bl.trans (bX.trans z.bl)))
              have wne := wl_ne X
              have EC0 := fun (z : Wl X) => encl_any y v 1 z.w
              clear CX cy0 hy hv BX
              obtain ⟨yv, yl, yh, yb⟩ := y
              dsimp only at x0 x1 x2 x3 hX z0 z1 z2 z3 henc
              cases yb with
              | true =>
                clear EC0 henc
                go_wp2_with fail
                rw [← hX]
                have HX := hideP hX
                clear hX x0 x1 x2 x3
                refine wl_region X (Bl.refl _) (by kernel_rfl) (by kernel_rfl) ?_
                repeat (go_big_quiet_step (first | fail))
                refine wpQuiet_nil ?_
                intro _ hw'
                obtain ⟨z, hw''⟩ := hw'
                subst hw''
                clear wne z0 z1 z2 z3 y0
                obtain ⟨wz, hz⟩ := z
                dsimp only
                go_wp2
                go_roundw
                case rel => exact ⟨t + 1, by simp, hlt2, bl.trans (bX.trans hz)⟩
                case measure => simp [intOf]; omega
              | false =>
                have EC := hideP (fun z : Wl X => by have := EC0 z; rw [henc rfl] at this; exact this)
                clear EC0 henc
                go_wp2_with fail
                rw [← hX]
                have HX := hideP hX
                clear hX x0 x1 x2 x3
                refine wl_region X (Bl.refl _) (by kernel_rfl) (by kernel_rfl) ?_
                repeat (go_big_quiet_step (first | (go_at_call 38; exact wl_call (EC.out _))))
                refine wpQuiet_nil ?_
                intro _ hw'
                obtain ⟨z, hw''⟩ := hw'
                subst hw''
                clear wne z0 z1 z2 z3 y0 EC
                obtain ⟨wz, hz⟩ := z
                dsimp only
                go_wp2
                go_roundw
                case rel => exact ⟨t + 1, by simp, hlt2, bl.trans (bX.trans hz)⟩
                case measure => simp [intOf]; omega
            · obtain rfl : t = la := by omega
              go_wp2_with fail
              refine (AW.out _).mono ?_
              rintro e w99 ⟨rfl, h99⟩
              go_wp2
              go_ret
              exact ⟨rfl, (B5.trans bl).trans h99⟩
  · have hlne : ((la : Int) == (mm : Int)) = false := by simp; omega
    clear ha hla hmm
    go_enter Tryz.func8, Tryz.ntmps8
    go_wp2_with fail
    refine (AW.out _).mono ?_
    rintro e w99 ⟨rfl, h99⟩
    go_wp2
    go_ret
    exact ⟨rfl, (Bl.refl _).trans h99⟩
end Go.Proofs.YtlbmkjicbkfmjaaGreat

/- A slice of whole numbers as an argument: opened. -/
namespace Go.Proofs.YtlbmkjicbkfmjaaGreat
open Go.ChangeShapes Go.WideShapes Go.ChangeAt Go.RowKit
set_option linter.unusedVariables false

theorem Tryz.cellsInt : Tryz.prog.cellsOf 3 = 1 := by kernel_rfl
theorem cell_block_lt {W : World} {b o : Nat} {v : Value} (h : W.cell? ⟨b, o, none⟩ = some v) : b < W.heap.size := by
  rcases Nat.lt_or_ge b W.heap.size with h' | h'
  · exact h'
  · have : W.heap[b]? = none := Array.getElem?_eq_none h'
    simp [World.cell?, this] at h
set_option maxRecDepth 1000000 in
theorem open_row {H : Type} {enc : TypeId × Value → H} {W : World} {b0 : Nat} {v : Value} {d : DataW H} {p : List MemPlace}
    (hv : Value.okWide Tryz.prog W .any b0 50 v) (h : DataW.Trod enc Tryz.prog W 0 (fun _ => true) true 50 v d p) : ∃ ns : List Int, Rq 1 cI W v ns ∧ ∀ n ∈ ns, (Lit.int .i64 n).wf = true := by
  obtain ⟨a0, len, cap, rfl⟩ := okWide_slice Tryz.underlying50 hv
  obtain ⟨fuel, hf⟩ := h
  rcases open_ints Tryz.underlying50 Tryz.underlying3 Tryz.cellsInt hf with ⟨hcs, hx⟩ | ⟨a, len', cap', zs, hcs, _, hl, hm, hz, hx, hcell, hwz⟩
  · simp [Value.cells] at hcs
    obtain ⟨rfl, rfl, rfl⟩ := hcs
    exact ⟨[], .inl ⟨none, 0, rfl, rfl, fun _ => rfl⟩, fun n hn => by simp at hn⟩
  · simp [Value.cells] at hcs
    obtain ⟨rfl, rfl, rfl⟩ := hcs
    simp only [if_true] at hz
    refine ⟨zs.take len, ?_, fun n hn => hwz n (List.mem_of_mem_take hn)⟩
    by_cases h0 : len = 0
    · subst h0
      exact .inl ⟨some a, cap, rfl, by simp, nofun⟩
    · have c0 := hcell 0 (by omega)
      obtain ⟨b, off, rfl, hc⟩ := ints_at hcell (by omega)
      have hb : b < W.heap.size := by
        have := hc 0 (by omega)
        exact cell_block_lt this
      have hll : (zs.take len).length = len := by simp; omega
      refine .inr ⟨b, off, cap, by rw [hll], by omega, hb, fun j x hj k u hu => ?_⟩
      rcases k with _ | k
      · simp at hu
        subst hu
        have hj2 := (List.getElem?_eq_some_iff.1 hj).1
        have := hc j (by omega)
        rw [List.getElem?_take] at hj
        split at hj
        · have e : zs.getD j 0 = x := by simp [List.getD, hj]
          rw [e] at this
          simpa using this
        · cases hj
      · simp at hu
end Go.Proofs.YtlbmkjicbkfmjaaGreat

/- House's Fold, of an enclosed triangle of whole numbers of 3 rows at most, from -20 up to 20, 1 at least on the diagonal, tells what encloses it. Conditions: none (every input). -/
namespace Go.Proofs.YtlbmkjicbkfmjaaGreat
open Go.ChangeShapes Go.WideShapes Go.ChangeAt Go.RowKit
set_option linter.unusedVariables false

theorem own_HouseTwice : ownKnob Tryz.prog.godebug = none := by kernel_rfl
theorem laid_HouseTwice : laidOutB Tryz.prog = true := by kernel_rfl
set_option maxRecDepth 100000 in
theorem lifted_HouseTwice (os : Os) (started : os.Started) (H : Type) (enc : TypeId × Value → H) :
    ReturnsInHanded {} Tryz.checked os 8 .any (Rows.houseTwiceSpec.pre6 enc Tryz.prog Tryz.f8 Rows.houseTwiceRow.domain false) (Rows.houseTwiceSpec.post enc Tryz.prog Tryz.f8 false true false false) := by
  refine returnsInHanded_of_change (C := Tryz.checked) own_HouseTwice started (by kernel_rfl) Tryz.func8
    (ChangeSpec.witness6 (enc := enc) (C := Tryz.checked) false ⟨#[], #[.slice none 0 0, .int .i64 0], []⟩ 8 (by kernel_rfl) (by kernel_rfl) (by kernel_rfl) (by kernel_rfl)) ?_
  intro W base args ds gs before hval0 hW hcnd _
  have hval : ∀ (j : Nat) t v, Tryz.f8.params[j]? = some t → args[j]? = some v → Value.okWide Tryz.prog W .any base t v := hval0
  have hW' := hW
  obtain ⟨p, q, hA0, hV, rfl, hfz, hnd⟩ := hW
  have hA : DataW.TrodAll enc Tryz.prog W 0 (fun _ => true) true Tryz.f8.params.toList args.toList ds p := hA0
  rw [Tryz.params8] at hA hval
  obtain ⟨v0, vs0, d0, ds0, p0, q0, hargs, rfl, rfl, h0, r0⟩ := trodAll_cons hA
  obtain ⟨v1, vs1, d1, ds1, p1, q1, rfl, rfl, rfl, h1, r1⟩ := trodAll_cons r0
  obtain ⟨rfl, rfl, rfl⟩ := trodAll_nil r1
  obtain rfl : args = #[v0, v1] := by cases args; simp_all
  obtain ⟨rfl, rfl⟩ := trodVars_none hV
  have hltA := fun x hx => hW'.lt x hx
  obtain ⟨a0, R0, w0⟩ := open_row (hval 0 50 v0 rfl rfl) h0
  obtain ⟨a1, e1, _, _, w1⟩ := open_int Tryz.underlying3 (hval 1 3 v1 rfl rfl) h1
  subst e1
  clear hA0 hval0
  refine (walk_HouseTwice v0 a0 a1 W R0).mono fun e W' ⟨he, bel⟩ => ?_
  subst he
  exact ⟨_, rfl, _, _, _, [], _, [], hW', trodAll_mk1 (shut_bool Tryz.underlying4 _), (trodAll_cons_mk (Below.trod laid_HouseTwice (by kernel_rfl) (of_decide_eq_true (by kernel_rfl)) h0 bel (fun x hx => by have := hltA x (by simp [hx]); simpa using this)) (trodAll_cons_mk (Below.trod laid_HouseTwice (by kernel_rfl) (of_decide_eq_true (by kernel_rfl)) h1 bel (fun x hx => by have := hltA x (by simp [hx]); simpa using this)) trodAll_mk0)), rfl, Below.frame bel _, fun h => by cases h⟩

theorem proved_HouseTwice : Rows.HouseTwiceSaid :=
  OpenClaim.holds_of_wide 8 Tryz.f8 rfl rfl rfl rfl rfl rfl rfl ⟨rfl, rfl, rfl, rfl, rfl⟩ rfl rfl rfl rfl rfl (by kernel_rfl) Tryz.func8 (by kernel_rfl)
    (of_decide_eq_true (by kernel_rfl)) (by unfold Func.isWrapper; first | (rw [if_pos (by decide +kernel)]; kernel_rfl) | (rw [if_neg (by decide +kernel)]; exact ⟨rfl, rfl⟩))
    (fun os started H enc _ => lifted_HouseTwice os started H enc)
#print axioms proved_HouseTwice
end Go.Proofs.YtlbmkjicbkfmjaaGreat
