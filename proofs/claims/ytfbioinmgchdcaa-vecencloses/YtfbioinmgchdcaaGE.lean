/- VecEncloses: the dot of whole numbers, as enclosed ones, encloses the whole number's (of 20 numbers from -1000 up to 1000). Conditions: none (every input). -/
import Derived.Test.YtfbioinmgchdcaaGF
import Derived.Test.YtfbioinmgchdcaaGN
import Derived.Test.YtfbioinmgchdcaaEnL
import Derived.Test.YtfbioinmgchdcaaEn5
import Derived.Test.YtfbioinmgchdcaaQz
import Derived.Deep.RegionWith
import Derived.ProofKit
import Derived.OpenShut
import Derived.Carry
/- What layer 5's laws ask with: Few, the document's Dot, awake. -/
namespace Go.Proofs.Ytfbioinmgchdcaa
open Go.RowKit
set_option linter.unusedSimpArgs false
set_option linter.unusedVariables false

/-- A whole number's cells. -/
abbrev cI : Int → List Value := fun n => [.int .i64 n]
theorem cellI {w wr : World} {b o : Nat} {ns : List Int} (HX : ∀ j x, ns[j]? = some x → ∀ k u, (cI x)[k]? = some u → w.cell? ⟨b, o + j * 1 + k, none⟩ = some u) {k : Nat} {x : Int} (hx : ns[k]? = some x) : w.cell? ⟨b, o + k, none⟩ = some (.int .i64 x) := by
  have := HX k x hx 0 _ rfl
  simpa using this
/-- What Few tells. -/
def FewP (ns : List Int) (w : World) (e : Ending) (w' : World) : Prop := ∃ b, e = .returned (.bool b) ∧ (b = true → ns.length ≤ 20 ∧ Sml 1000 ns) ∧ w' = w
theorem fewP {ns : List Int} {w : World} (b : Bool) (h : b = true → ns.length ≤ 20 ∧ Sml 1000 ns) : FewP ns w (.returned (.bool b)) w := ⟨b, rfl, h, rfl⟩
set_option maxHeartbeats 1000000 in
theorem few_any (v : Value) (ns : List Int) (w : World) (h : Rq 1 cI w v ns) :
    Calls Try.prog 9 #[v] w (FewP ns w) := by
  rcases h with ⟨p, cap, rfl, rfl, hpn⟩ | ⟨b, o, cap, rfl, hc, hb, hx⟩
  · go_enter Try.func9, Try.ntmps9
    go_wp2_with fail
    go_loopw [3] (fun i wr => i = .int .i64 0 ∧ wr = w) (fun _ _ => 0)
    case atStart => exact ⟨rfl, rfl⟩
    case round =>
      obtain ⟨rfl, rfl⟩ := hrel
      go_wp2
      go_ret
      exact fewP _ (fun _ => ⟨by simp, fun x hx => by simp at hx⟩)
  · have HX := hideP hx
    clear hx
    go_enter Try.func9, Try.ntmps9
    go_wp2_with fail
    go_loopw [3] (fun i wr => ∃ k : Nat, i = .int .i64 k ∧ k ≤ ns.length ∧ k ≤ 21 ∧ Sml 1000 (ns.take k) ∧ wr = w) (fun i _ => 21 - (intOf i).toNat)
    case atStart => exact ⟨0, rfl, Nat.zero_le _, Nat.zero_le _, fun x hx => by simp at hx, rfl⟩
    case round =>
      obtain ⟨k, rfl, hk, hk2, hS, rfl⟩ := hrel
      have HS := hideP hS
      clear hS
      by_cases hlt : k < ns.length ∧ k ≤ 20
      · obtain ⟨hlt, hlt2⟩ := hlt
        obtain ⟨x, hx⟩ : ∃ x, ns[k]? = some x := ⟨_, List.getElem?_eq_getElem hlt⟩
        have cx := cellI HX.out hx (wr := wr)
        have HT := hideP (show ns.take (k + 1) = ns.take k ++ [x] by rw [List.take_add_one, hx]; rfl)
        by_cases h1 : x < -1000
        · go_wp2
          go_ret
          exact fewP _ nofun
        · by_cases h2 : 1000 < x
          · go_wp2
            go_ret
            exact fewP _ nofun
          · go_wp2
            go_roundw
            case rel =>
              refine ⟨k + 1, by simp, hlt, by omega, ?_, trivial⟩
              rw [HT.out]
              intro y hy
              rcases List.mem_append.1 hy with hy | hy
              · exact HS.out y hy
              · simp at hy; omega
            case measure => simp [intOf]; omega
      · by_cases hl : ns.length ≤ 20
        · have hk' : k = ns.length := by omega
          subst hk'
          go_wp2
          go_ret
          exact fewP _ (fun _ => ⟨hl, by have := HS.out; rwa [List.take_length] at this⟩)
        · have hk' : 20 < k := by omega
          have hl' : 20 < ns.length := by omega
          go_wp2
          all_goals
            go_ret
            exact fewP _ (fun h => by simp at h; omega)
/-- The world behind awake's two rows of whole numbers. -/
theorem rq_new2 (w : World) (x y : Int) (t : TypeId) : Rq 1 cI (w.alloc (.cells #[.int .i64 x, .int .i64 y] t)) (.slice (some ⟨w.heap.size, 0, none⟩) 2 2) [x, y] := by
  refine .inr ⟨w.heap.size, 0, 2, rfl, Nat.le_refl _, by simp, fun j z hj k u hu => ?_⟩
  rcases k with _ | k
  · simp at hu
    subst hu
    rcases j with _ | _ | j
    · simp at hj; subst hj; simp [go_sem]
    · simp at hj; subst hj; simp [go_sem]
    · simp at hj
  · simp at hu
theorem dotI_snoc (xs ys : List Int) (k : Nat) (x y : Int) (hx : xs[k]? = some x) (hy : ys[k]? = some y) : dotI (xs.take (k + 1)) (ys.take (k + 1)) = dotI (xs.take k) (ys.take k) + x * y := by
  have h1 := (List.getElem?_eq_some_iff.1 hx).1
  have h2 := (List.getElem?_eq_some_iff.1 hy).1
  unfold dotI
  rw [List.take_add_one, List.take_add_one, hx, hy, List.zipWith_append (by simp; omega)]
  simp
theorem dotI_take (xs ys : List Int) (k : Nat) (h : k = min xs.length ys.length) : dotI (xs.take k) (ys.take k) = dotI xs ys := by
  unfold dotI
  congr 1
  subst h
  rw [List.zipWith_eq_zipWith_take_min (l₁ := xs)]
theorem sum_few {ns : List Int} (h : Sml 1000 ns) (hl : ns.length ≤ 20) : sumF (ns.map wholeF) = itF ns.sum := by
  rw [wholes_it ns h (by omega)]
  exact sum_it ns h (by omega) (by omega)
set_option maxHeartbeats 1000000 in
theorem refDot5_any (va vb : Value) (xs ys : List Int) (w : World) (ha : Rq 1 cI w va xs) (hb : Rq 1 cI w vb ys) (hx : Sml 1000 xs) (hy : Sml 1000 ys) (hl : xs.length ≤ 20) (hm : ys.length ≤ 20) :
    Calls Try.prog 17 #[va, vb] w fun e w' => e = .returned (.int .i64 (dotI xs ys)) ∧ Bl w w' := by
  obtain ⟨p, cap, rfl, hc, _⟩ := ha.cut
  obtain ⟨q, dap, rfl, hd, _⟩ := hb.cut
  have CA : ∀ k x, xs[k]? = some x → ∃ b o, p = some ⟨b, o, none⟩ ∧ b < w.heap.size ∧ w.cell? ⟨b, o + k, none⟩ = some (.int .i64 x) := by
    intro k x hk
    rcases ha with ⟨_, _, _, h0, _⟩ | ⟨b, o, c, e, _, hlt, HX⟩
    · rw [h0] at hk; simp at hk
    · cases e; exact ⟨b, o, rfl, hlt, cellI HX hk (wr := w)⟩
  have CB : ∀ k x, ys[k]? = some x → ∃ b o, q = some ⟨b, o, none⟩ ∧ b < w.heap.size ∧ w.cell? ⟨b, o + k, none⟩ = some (.int .i64 x) := by
    intro k x hk
    rcases hb with ⟨_, _, _, h0, _⟩ | ⟨b, o, c, e, _, hlt, HX⟩
    · rw [h0] at hk; simp at hk
    · cases e; exact ⟨b, o, rfl, hlt, cellI HX hk (wr := w)⟩
  have HCA := hideP CA
  have HCB := hideP CB
  have HX := hideP hx
  have HY := hideP hy
  clear CA CB ha hb hx hy
  have fm : Try.prog.follows .mixedOrders = true := by kernel_rfl
  go_enter Try.func17, Try.ntmps17
  go_wp2_with fail
  go_loopw [5, 6] (fun n i wr => ∃ k : Nat, i = .int .i64 k ∧ k ≤ xs.length ∧ k ≤ ys.length ∧ n = .int .i64 (dotI (xs.take k) (ys.take k)) ∧ Bl w wr) (fun _ i _ => xs.length - (intOf i).toNat)
  case atStart => exact ⟨0, rfl, Nat.zero_le _, Nat.zero_le _, by simp [dotI], Bl.refl _⟩
  case round =>
    obtain ⟨k, rfl, hk, hk2, rfl, bl⟩ := hrel
    by_cases h1 : k < xs.length
    · by_cases h2 : k < ys.length
      · obtain ⟨x, hx⟩ : ∃ x, xs[k]? = some x := ⟨_, List.getElem?_eq_getElem h1⟩
        obtain ⟨y, hy⟩ : ∃ y, ys[k]? = some y := ⟨_, List.getElem?_eq_getElem h2⟩
        obtain ⟨b, o, rfl, hb, cx⟩ := HCA.out k x hx
        obtain ⟨b', o', rfl, hb', cy⟩ := HCB.out k y hy
        have cx' := (bl_cell (bl.drew) _ (o + k) hb).trans cx
        have cy' := (bl_cell (bl.drew) _ (o' + k) hb').trans cy
        have bx := HX.out x (List.mem_of_getElem? hx)
        have bY := HY.out y (List.mem_of_getElem? hy)
        have bd := dotI_bound (HX.out.take k) (HY.out.take k) (by omega) (by omega) (by simp; omega)
        have bm := mul_bound bx bY
        have HN := hideP (dotI_snoc xs ys k x y hx hy)
        generalize dotI (xs.take k) (ys.take k) = d at *
        generalize hm' : x * y = m at *
        have w1 : wrap64 m = m := by unfold wrap64; omega
        have w2 : wrap64 (d + m) = d + m := by unfold wrap64; omega
        clear cx cy
        go_wp2
        go_region
        go_wp2
        go_roundw
        case rel => exact ⟨k + 1, by simp, h1, h2, by rw [HN.out], bl.drew⟩
        case measure => simp [intOf]; omega
      · rw [dotI_take xs ys k (by omega)]
        go_wp2
        go_ret
        exact ⟨rfl, bl⟩
    · rw [dotI_take xs ys k (by omega)]
      go_wp2
      go_ret
      exact ⟨rfl, bl⟩
end Go.Proofs.Ytfbioinmgchdcaa

/- Contracts in the words of layer 5's laws: few whole numbers, as fractions; awake. -/
namespace Go.Proofs.Ytfbioinmgchdcaa
open Go.RowKit
set_option linter.unusedSimpArgs false
set_option linter.unusedVariables false

theorem eqR_self (r : Fr) : eqR r r = true := eqR_iff.2 rfl
theorem eql_selfV (r : Fr) (w : World) : (binOp .eql 28 (frV r) (frV r)).run Try.prog w = .ok (.bool true) w := by rw [eql_fr, eqR_self]
theorem new_few {n : Int} (h : Wh n) (w : World) : Calls Try.prog 15 #[.int .i64 n, .int .i64 1] w fun e w' => e = .returned (frV (itF n)) ∧ Bl w w' := by
  rw [← new_it h]
  exact new_any n 1 w
/-- A row of whole numbers. -/
abbrev RwI (w : World) (v : Value) (ns : List Int) : Prop := Rw 3 cellsF w v (ns.map itF)
theorem rw_slice {w : World} {v : Value} {ns : List Int} (h : RwI w v ns) : ∃ p c, v = .slice p ns.length c ∧ ns.length ≤ c := by
  obtain ⟨p, c, e, h1, _⟩ := h.cut
  rw [List.length_map] at e h1
  exact ⟨p, c, e, h1⟩
theorem whole_few (v : Value) (ns : List Int) (w : World) (h : Rq 1 cI w v ns) (hs : Sml 1000 ns) (hl : ns.length ≤ 20) :
    Calls Try.prog 11 #[v] w fun e w' => ∃ p c, e = .returned (.slice p ns.length c) ∧ (RwI w' (.slice p ns.length c) ns ∧ ns.length ≤ c) ∧ Bl w w' := by
  refine (vWholeF v ns w h (by omega)).mono ?_
  rintro e w' ⟨u, rfl, hr, hb⟩
  rw [wholes_it ns hs (by omega)] at hr
  obtain ⟨p, c, rfl, hc⟩ := rw_slice hr
  exact ⟨p, c, rfl, ⟨hr, hc⟩, hb⟩
theorem add_few (va vb : Value) (xs ys : List Int) (w : World) (ha : RwI w va xs) (hb : RwI w vb ys) (hx : Sml 1000 xs) (hy : Sml 1000 ys) (hl : xs.length ≤ 20) (hm : ys.length ≤ 20) :
    Calls Try.prog 12 #[va, vb] w fun e w' => ∃ p c, e = .returned (.slice p (min xs.length ys.length) c) ∧ (RwI w' (.slice p (min xs.length ys.length) c) (List.zipWith (· + ·) xs ys) ∧ min xs.length ys.length ≤ c) ∧ Bl w w' := by
  refine (vAddF va vb _ _ w ha.q hb.q (by simp; omega) (by simp; omega)).mono ?_
  rintro e w' ⟨u, rfl, hr, hb⟩
  rw [adds_it (A := 1000) (B := 1000) (by omega) (by omega) (by omega) xs ys hx hy] at hr
  obtain ⟨p, c, rfl, hc⟩ := rw_slice hr
  rw [List.length_zipWith] at hr hc ⊢
  exact ⟨p, c, rfl, ⟨hr, hc⟩, hb⟩
theorem sub_few (va vb : Value) (xs ys : List Int) (w : World) (ha : RwI w va xs) (hb : RwI w vb ys) (hx : Sml 1000 xs) (hy : Sml 1000 ys) (hl : xs.length ≤ 20) (hm : ys.length ≤ 20) :
    Calls Try.prog 13 #[va, vb] w fun e w' => ∃ p c, e = .returned (.slice p (min xs.length ys.length) c) ∧ (RwI w' (.slice p (min xs.length ys.length) c) (List.zipWith (· - ·) xs ys) ∧ min xs.length ys.length ≤ c) ∧ Bl w w' := by
  refine (vSubF va vb _ _ w ha.q hb.q (by simp; omega) (by simp; omega)).mono ?_
  rintro e w' ⟨u, rfl, hr, hb⟩
  rw [subs_it (A := 1000) (B := 1000) (by omega) (by omega) (by omega) xs ys hx hy] at hr
  obtain ⟨p, c, rfl, hc⟩ := rw_slice hr
  rw [List.length_zipWith] at hr hc ⊢
  exact ⟨p, c, rfl, ⟨hr, hc⟩, hb⟩
theorem scale_few (v : Value) (xs : List Int) (b : Int) (w : World) (h : RwI w v xs) (hx : Sml 1000 xs) (hb : -1000 ≤ b ∧ b ≤ 1000) (hl : xs.length ≤ 20) :
    Calls Try.prog 14 #[v, frV (itF b)] w fun e w' => ∃ p c, e = .returned (.slice p xs.length c) ∧ (RwI w' (.slice p xs.length c) (xs.map (· * b)) ∧ xs.length ≤ c) ∧ Bl w w' := by
  refine (vScaleF v _ (itF b) w h (by simp; omega)).mono ?_
  rintro e w' ⟨u, rfl, hr, hbl⟩
  rw [scale_it (A := 1000) (B := 1000) (by omega) (by omega) (by omega) hb xs hx] at hr
  obtain ⟨p, c, rfl, hc⟩ := rw_slice hr
  rw [List.length_map] at hr hc ⊢
  exact ⟨p, c, rfl, ⟨hr, hc⟩, hbl⟩
theorem dot_few {A B : Int} (va vb : Value) (xs ys : List Int) (w : World) (ha : RwI w va xs) (hb : RwI w vb ys) (hx : Sml A xs) (hy : Sml B ys) (hA : 0 ≤ A ∧ A ≤ 100000) (hB : 0 ≤ B ∧ B ≤ 2000) (hAB : A * B ≤ 53687091) (hl : xs.length ≤ 20) (hm : ys.length ≤ 20) :
    Calls Try.prog 16 #[va, vb] w fun e w' => e = .returned (frV (itF (dotI xs ys))) ∧ Bl w w' := by
  rw [← dot_it hx hy hA hB hl hAB]
  exact vDotF va vb _ _ w ha.q hb.q (by simp; omega) (by simp; omega)
theorem sum_few' (v : Value) (xs : List Int) (w : World) (h : RwI w v xs) (hx : Sml 1000 xs) (hl : xs.length ≤ 20) :
    Calls Try.prog 18 #[v] w fun e w' => e = .returned (frV (itF xs.sum)) ∧ Bl w w' := by
  rw [← sum_it (B := 1000) xs hx (by omega) (by omega)]
  exact vsumF v _ w h.q (by simp; omega)
theorem sml12 : Sml 1000 [1, 2] := by intro x hx; simp at hx; omega
theorem sml34 : Sml 1000 [3, 4] := by intro x hx; simp at hx; omega
set_option maxHeartbeats 1000000 in
theorem awake5_any (w : World) : Calls Try.prog 10 #[] w fun e w' => e = .returned (.bool true) ∧ Bl w w' := by
  have EG := Try.frGuard
  have e1 := eql_selfV (itF 11)
  have e2 := eql_selfV (itF 3)
  go_enter Try.func10, Try.ntmps10
  go_wp2_with fail
  refine (whole_few _ [1, 2] _ (rq_new2 w 1 2 _) sml12 (by simp)).mono ?_
  rintro e w1 ⟨p, c, rfl, r1, h1⟩
  have R1 : Hid (RwI w1 (.slice p 2 c) [1, 2]) := hideP r1.1
  clear r1
  go_wp2_with fail
  refine (whole_few _ [3, 4] _ (rq_new2 w1 3 4 _) sml34 (by simp)).mono ?_
  rintro e w2 ⟨q, d, rfl, r2, h2⟩
  have R2 : Hid (RwI w2 (.slice q 2 d) [3, 4]) := hideP r2.1
  have B2 : Bl w1 w2 := ((Bl.refl _).alloc _).trans h2
  clear r2
  go_wp2_with fail
  refine (dot_few (A := 1000) (B := 1000) _ _ [1, 2] [3, 4] _ (R1.out.later B2) R2.out sml12 sml34 (by omega) (by omega) (by omega) (by simp) (by simp)).mono ?_
  rintro e w3 ⟨rfl, h3⟩
  rw [show dotI [1, 2] [3, 4] = 11 by decide]
  go_wp2_with fail
  refine (new_few (n := 11) ⟨by omega, by omega⟩ _).mono ?_
  rintro e w4 ⟨rfl, h4⟩
  go_wp2_with fail
  refine (add_few _ _ [1, 2] [3, 4] _ (R1.out.later (B2.trans (h3.trans h4))) (R2.out.later (h3.trans h4)) sml12 sml34 (by simp) (by simp)).mono ?_
  rintro e w5 ⟨p5, c5, rfl, r5, h5⟩
  clear r5
  go_wp2_with fail
  refine (sum_few' _ [1, 2] _ (R1.out.later (B2.trans (h3.trans (h4.trans h5)))) sml12 (by simp)).mono ?_
  rintro e w6 ⟨rfl, h6⟩
  rw [show ([1, 2] : List Int).sum = 3 by decide]
  go_wp2_with fail
  refine (new_few (n := 3) ⟨by omega, by omega⟩ _).mono ?_
  rintro e w7 ⟨rfl, h7⟩
  go_wp2
  go_ret
  exact ⟨rfl, (((Bl.refl w).alloc _).trans h1).trans (B2.trans (h3.trans (h4.trans (h5.trans (h6.trans h7)))))⟩
end Go.Proofs.Ytfbioinmgchdcaa

/- Whole numbers as points: their sums, products and dots, enclosed (layer 5's laws). Mathematics alone. -/
namespace Go.Proofs.Ytfbioinmgchdcaa
open Go.RowKit
set_option linter.unusedSimpArgs false
set_option linter.unusedVariables false

/-- The point of a whole number. -/
def itN (n : Int) : En := ⟨n * 16777216, n * 16777216, n * 16777216, false⟩
/-- It may be one. -/
def Wn (n : Int) : Prop := -67108864 ≤ n ∧ n ≤ 67108864
theorem fr_it {n : Int} (h : Wn n) : frB (n * 16777216) = true := frB_eq (by unfold Wn at h; omega)
theorem fineN_it {n : Int} (h : Wn n) : fineB (itN n) = true := pt_fine (fr_it h)
theorem ofN_it {n : Int} (h : Wn n) : ptE (foN n) (foB n) = itN n := by
  have h1 : foB n = true := by unfold foB; unfold Wn at h; simp; omega
  rw [h1]
  unfold foN
  rw [h1]
  rfl
theorem addN_it {a b : Int} (ha : Wn a) (hb : Wn b) (h : Wn (a + b)) : addE (itN a) (itN b) = itN (a + b) := by
  have e : a * 16777216 + b * 16777216 = (a + b) * 16777216 := by omega
  have t := fa_told (fr_it ha) (fr_it hb) (by rw [e]; exact fr_it h)
  have ok : okE bA (itN a) (itN b) (prs2 (itN a) (itN b)) = true := okE_iff.2 ⟨t.1, fineN_it ha, fineN_it hb, by rw [show prs2 (itN a) (itN b) = prs2 ⟨a * 16777216, a * 16777216, a * 16777216, false⟩ ⟨b * 16777216, b * 16777216, b * 16777216, false⟩ from rfl, (same_prs2 _ _).ok]; unfold bA; rw [t.1]; rfl⟩
  have e1 := told_ok (N := nA) ok
  unfold addE
  rw [e1]
  have hs : Same (prs2 (itN a) (itN b)) (a * 16777216) (b * 16777216) := same_prs2 _ _
  rw [hs.low bdA, hs.high bdA]
  have hn : ∀ m, nA (a * 16777216) (b * 16777216) m = (a + b) * 16777216 := fun m => by show faN _ _ = _; rw [t.2, e]
  show (⟨nA (a * 16777216) (b * 16777216) 0, _, _, false⟩ : En) = _
  rw [hn, hn, hn]
  rfl
theorem rnd_it (x c m : Int) (hc : 0 < c) : rnd (x * c) c m = x := by
  unfold rnd
  have h1 : x * c / c = x := Int.mul_ediv_cancel _ (by omega)
  have h2 : -(-(x * c) / c) = x := by rw [← Int.neg_mul, Int.mul_ediv_cancel _ (by omega), Int.neg_neg]
  split
  · exact h1
  · split
    · exact h2
    · unfold evn
      have h3 : x * c % c = 0 := Int.mul_emod_left x c
      rw [h1, h3]
      simp
      omega
theorem mulN_it {a b : Int} (ha : Wn a) (hb : Wn b) (h : Wn (a * b)) : mulE (itN a) (itN b) = itN (a * b) := by
  have ex : a * 16777216 * (b * 16777216) = a * b * 16777216 * 16777216 := by rw [← Int.mul_assoc, Int.mul_right_comm a 16777216 b]
  have t : ∀ m, MD m → fmB (a * 16777216) (b * 16777216) m = true ∧ fmN (a * 16777216) (b * 16777216) m = a * b * 16777216 := fun m hm => by
    have := fm_told (fr_it ha) (fr_it hb) hm (by rw [ex, rnd_it _ _ _ (by decide)]; exact fr_it h)
    rw [ex, rnd_it _ _ _ (by decide)] at this
    exact this
  have hs : Same (prs4 (itN a) (itN b)) (a * 16777216) (b * 16777216) := same_prs4 _ _
  have ok : okE fmB (itN a) (itN b) (prs4 (itN a) (itN b)) = true := okE_iff.2 ⟨(t 0 (.inl rfl)).1, fineN_it ha, fineN_it hb, by rw [hs.ok, (t 1 (.inr (.inl rfl))).1, (t 2 (.inr (.inr rfl))).1]; rfl⟩
  have e1 := told_ok (N := fmN) ok
  unfold mulE
  rw [e1, hs.low bdM, hs.high bdM]
  show (⟨fmN (a * 16777216) (b * 16777216) 0, _, _, false⟩ : En) = _
  rw [(t 0 (.inl rfl)).2, (t 1 (.inr (.inl rfl))).2, (t 2 (.inr (.inr rfl))).2]
  rfl
theorem foldN_it {B : Int} : ∀ (ns : List Int) (s : Int), Sml B ns → 0 ≤ B → -67108864 + B * ns.length ≤ s → s ≤ 67108864 - B * ns.length → (ns.map itN).foldl addE (itN s) = itN (s + ns.sum)
  | [], s, _, _, _, _ => by simp
  | n :: ns, s, h, hB, h1, h2 => by
    have hn := h.head
    simp only [List.length_cons, Int.natCast_add, Int.mul_add] at h1 h2
    have hp : 0 ≤ B * ns.length := Int.mul_nonneg hB (by omega)
    rw [List.map_cons, List.foldl_cons, addN_it ⟨by omega, by omega⟩ ⟨by omega, by omega⟩ ⟨by omega, by omega⟩, foldN_it ns (s + n) h.tail hB (by omega) (by omega), List.sum_cons]
    congr 1
    omega
theorem sumN_it {B : Int} (ns : List Int) (h : Sml B ns) (hB : 0 ≤ B) (hb : B * ns.length ≤ 67108864) : sumN (ns.map itN) = itN ns.sum := by
  unfold sumN
  rw [ofN_it (n := 0) ⟨by omega, by omega⟩, foldN_it ns 0 h hB (by omega) (by omega)]
  simp
theorem wholesN_it {B : Int} (ns : List Int) (h : Sml B ns) (hb : B ≤ 67108864) : ns.map wholeN = ns.map itN :=
  List.map_congr_left fun x hx => ofN_it (by have := h x hx; exact ⟨by omega, by omega⟩)
theorem mulsN_it {A B : Int} (hA : A ≤ 67108864) (hB : B ≤ 67108864) (hAB : A * B ≤ 67108864) : ∀ (xs ys : List Int), Sml A xs → Sml B ys → List.zipWith mulE (xs.map itN) (ys.map itN) = (List.zipWith (· * ·) xs ys).map itN
  | [], _, _, _ => by simp
  | _ :: _, [], _, _ => by simp
  | x :: xs, y :: ys, h, k => by
    have h1 := h.head
    have h2 := k.head
    have h3 := mul_bound h1 h2
    rw [List.map_cons, List.map_cons, List.zipWith_cons_cons, List.zipWith_cons_cons, List.map_cons, mulN_it ⟨by omega, by omega⟩ ⟨by omega, by omega⟩ ⟨by omega, by omega⟩, mulsN_it hA hB hAB xs ys h.tail k.tail]
theorem dotN_it {xs ys : List Int} (h : Sml 1000 xs) (k : Sml 1000 ys) (hl : xs.length ≤ 20) : dotN (xs.map itN) (ys.map itN) = itN (dotI xs ys) := by
  unfold dotN dotI
  rw [mulsN_it (by omega) (by omega) (by omega) xs ys h k]
  refine sumN_it (B := 1000 * 1000) _ (muls_sml h k) (by omega) ?_
  have hln : (List.zipWith (· * ·) xs ys).length ≤ 20 := by simp; omega
  omega
theorem encl_it {n : Int} (h : Wn n) : enclB (itN n) n 1 = true := by
  unfold enclB withinB
  rw [fineN_it h, rightB_eq (by unfold Wn at h; omega), rightB_eq (n := 1) (by omega)]
  simp [itN]
end Go.Proofs.Ytfbioinmgchdcaa

/- The walk of VecEncloses. -/
namespace Go.Proofs.Ytfbioinmgchdcaa
open Go.RowKit
set_option linter.unusedSimpArgs false
set_option linter.unusedVariables false

theorem wholeN_few (v : Value) (ns : List Int) (w : World) (h : Rq 1 cI w v ns) (hs : Sml 1000 ns) (hl : ns.length ≤ 20) :
    Calls Try.prog 20 #[v] w fun e w' => ∃ u, e = .returned u ∧ Rw 4 cellsN w' u (ns.map itN) ∧ Bl w w' := by
  refine (vWholeN v ns w h (by omega)).mono ?_
  rintro e w' ⟨u, rfl, hr, hb⟩
  rw [wholesN_it ns hs (by omega)] at hr
  exact ⟨u, rfl, hr, hb⟩
theorem dotN_few (va vb : Value) (xs ys : List Int) (w : World) (ha : Rw 4 cellsN w va (xs.map itN)) (hb : Rw 4 cellsN w vb (ys.map itN)) (hx : Sml 1000 xs) (hy : Sml 1000 ys) (hl : xs.length ≤ 20) (hm : ys.length ≤ 20) :
    Calls Try.prog 19 #[va, vb] w fun e w' => e = .returned (enV (itN (dotI xs ys))) ∧ Bl w w' := by
  rw [← dotN_it hx hy hl]
  exact vDotN va vb _ _ w ha.q hb.q (by simp; omega) (by simp; omega)
set_option maxHeartbeats 2000000 in
theorem walk_VecEncloses (va : Value) (xs : List Int) (vb : Value) (ys : List Int) (w : World) (ha : Rq 1 cI w va xs) (hb : Rq 1 cI w vb ys) :
    Calls Try.prog 4 #[va, vb] w fun e w' => e = .returned (.bool true) ∧ Bl w w' := by
  have AW := hideP awake5_any
  have FA := hideP (few_any va xs w ha)
  have FB := hideP (few_any vb ys w hb)
  have HA := hideP ha
  have HB := hideP hb
  clear ha hb
  go_enter Try.func4, Try.ntmps4
  go_wp2_with fail
  refine FA.out.mono ?_
  rintro e w1 ⟨b, rfl, hb, rfl⟩
  clear FA
  cases b
  · clear hb
    go_wp2_with fail
    refine (AW.out _).mono ?_
    rintro e w2 ⟨rfl, h2⟩
    go_wp2
    go_ret
    exact ⟨rfl, h2⟩
  obtain ⟨hl, hx⟩ := hb rfl
  clear hb
  go_wp2_with fail
  refine FB.out.mono ?_
  rintro e w2 ⟨b, rfl, hb, rfl⟩
  clear FB
  cases b
  · clear hb
    go_wp2_with fail
    refine (AW.out _).mono ?_
    rintro e w2 ⟨rfl, h2⟩
    go_wp2
    go_ret
    exact ⟨rfl, h2⟩
  obtain ⟨hm, hy⟩ := hb rfl
  clear hb
  have HX := hideP hx
  have HY := hideP hy
  have HD := hideP (show Wn (dotI xs ys) by have := dotI_bound hx hy (by omega) (by omega) hl; exact ⟨by omega, by omega⟩)
  clear hx hy
  go_wp2_with fail
  refine (wholeN_few _ xs _ HA.out HX.out hl).mono ?_
  rintro e w3 ⟨u, rfl, hu, h3⟩
  have HU := hideP hu
  clear hu
  go_wp2_with fail
  refine (wholeN_few _ ys _ (HB.out.later h3) HY.out hm).mono ?_
  rintro e w4 ⟨t, rfl, ht, h4⟩
  have HT := hideP ht
  clear ht
  go_wp2_with fail
  refine (dotN_few _ _ xs ys _ (HU.out.later h4) HT.out HX.out HY.out hl hm).mono ?_
  rintro e w5 ⟨rfl, h5⟩
  have ENC := hideP (fun u : World => encl_any (itN (dotI xs ys)) (dotI xs ys) 1 u)
  rw [encl_it HD.out] at ENC
  generalize itN (dotI xs ys) = r at *
  go_wp2_with fail
  obtain ⟨V, hV⟩ : ∃ V, V = w5.alloc (.cells #[.int .i64 r.v, .int .i64 r.l, .int .i64 r.h, .bool r.bad] 37) := ⟨_, rfl⟩
  rw [← hV]
  have bV : Bl w5 V := by rw [hV]; exact (Bl.refl _).alloc _
  have BX : Box V w5.heap.size r := by rw [hV]; exact Box.new w5 r _
  clear hV
  have hBl : Bl w2 V := h3.trans (h4.trans (h5.trans bV))
  have RD := hideP (fun z : Wl V => refDot5_any va vb xs ys z.w (HA.out.later (hBl.trans z.bl)) (HB.out.later (hBl.trans z.bl)) HX.out HY.out hl hm)
  have wne := wl_ne V
  obtain ⟨c0, c1, c2, c3⟩ := BX.wl
  refine wl_region V (Bl.refl _) (by kernel_rfl) (by kernel_rfl) ?_
  repeat (go_big_quiet_step (first
    | (go_at_call 17; exact wl_call (RD.out _))
    | (go_at_call 21; exact wl_call (ENC.out _))
    | (go_at_call 10; exact wl_call (AW.out _))))
  refine wpQuiet_nil ?_
  intro _ hw'
  obtain ⟨z, hw''⟩ := hw'
  subst hw''
  clear wne c0 c1 c2 c3
  obtain ⟨w6, h6⟩ := z
  dsimp only
  go_wp2
  go_ret
  exact ⟨rfl, hBl.trans h6⟩
end Go.Proofs.Ytfbioinmgchdcaa

/- A slice of whole numbers as an argument: opened. -/
namespace Go.Proofs.Ytfbioinmgchdcaa
open Go.ChangeShapes Go.WideShapes Go.ChangeAt Go.RowKit
set_option linter.unusedVariables false

theorem Try.cellsInt : Try.prog.cellsOf 3 = 1 := by kernel_rfl
theorem cell_block_lt {W : World} {b o : Nat} {v : Value} (h : W.cell? ⟨b, o, none⟩ = some v) : b < W.heap.size := by
  rcases Nat.lt_or_ge b W.heap.size with h' | h'
  · exact h'
  · have : W.heap[b]? = none := Array.getElem?_eq_none h'
    simp [World.cell?, this] at h
set_option maxRecDepth 1000000 in
theorem open_row {H : Type} {enc : TypeId × Value → H} {W : World} {b0 : Nat} {v : Value} {d : DataW H} {p : List MemPlace}
    (hv : Value.okWide Try.prog W .any b0 22 v) (h : DataW.Trod enc Try.prog W 0 (fun _ => true) true 22 v d p) : ∃ ns : List Int, Rq 1 cI W v ns ∧ ∀ n ∈ ns, (Lit.int .i64 n).wf = true := by
  obtain ⟨a0, len, cap, rfl⟩ := okWide_slice Try.underlying22 hv
  obtain ⟨fuel, hf⟩ := h
  rcases open_ints Try.underlying22 Try.underlying3 Try.cellsInt hf with ⟨hcs, hx⟩ | ⟨a, len', cap', zs, hcs, _, hl, hm, hz, hx, hcell, hwz⟩
  · simp [Value.cells] at hcs
    obtain ⟨rfl, rfl, rfl⟩ := hcs
    exact ⟨[], .inl ⟨none, 0, rfl, rfl, fun _ => rfl⟩, fun n hn => by simp at hn⟩
  · simp [Value.cells] at hcs
    obtain ⟨rfl, rfl, rfl⟩ := hcs
    simp only [if_true] at hz
    refine ⟨zs.take len, ?_, fun n hn => hwz n (List.mem_of_mem_take hn)⟩
    by_cases h0 : len = 0
    · subst h0
      exact .inl ⟨some a, cap, rfl, by simp, nofun⟩
    · have c0 := hcell 0 (by omega)
      obtain ⟨b, off, rfl, hc⟩ := ints_at hcell (by omega)
      have hb : b < W.heap.size := by
        have := hc 0 (by omega)
        exact cell_block_lt this
      have hll : (zs.take len).length = len := by simp; omega
      refine .inr ⟨b, off, cap, by rw [hll], by omega, hb, fun j x hj k u hu => ?_⟩
      rcases k with _ | k
      · simp at hu
        subst hu
        have hj2 := (List.getElem?_eq_some_iff.1 hj).1
        have := hc j (by omega)
        rw [List.getElem?_take] at hj
        split at hj
        · have e : zs.getD j 0 = x := by simp [List.getD, hj]
          rw [e] at this
          simpa using this
        · cases hj
      · simp at hu
end Go.Proofs.Ytfbioinmgchdcaa

/- VecEncloses: the dot of whole numbers, as enclosed ones, encloses the whole number's (of 20 numbers from -1000 up to 1000). Conditions: none (every input). -/
namespace Go.Proofs.Ytfbioinmgchdcaa
open Go.ChangeShapes Go.WideShapes Go.ChangeAt Go.RowKit
set_option linter.unusedVariables false

theorem own_VecEncloses : ownKnob Try.prog.godebug = none := by kernel_rfl
theorem laid_VecEncloses : laidOutB Try.prog = true := by kernel_rfl
set_option maxRecDepth 100000 in
theorem lifted_VecEncloses (os : Os) (started : os.Started) (H : Type) (enc : TypeId × Value → H) :
    ReturnsInHanded {} Try.checked os 4 .any (Rows.vecEnclosesSpec.pre6 enc Try.prog Try.f4 Rows.vecEnclosesRow.domain false) (Rows.vecEnclosesSpec.post enc Try.prog Try.f4 false true false false) := by
  refine returnsInHanded_of_change (C := Try.checked) own_VecEncloses started (by kernel_rfl) Try.func4
    (ChangeSpec.witness6 (enc := enc) (C := Try.checked) false ⟨#[], #[.slice none 0 0, .slice none 0 0], []⟩ 8 (by kernel_rfl) (by kernel_rfl) (by kernel_rfl) (by kernel_rfl)) ?_
  intro W base args ds gs before hval0 hW hcnd _
  have hval : ∀ (j : Nat) t v, Try.f4.params[j]? = some t → args[j]? = some v → Value.okWide Try.prog W .any base t v := hval0
  have hW' := hW
  obtain ⟨p, q, hA0, hV, rfl, hfz, hnd⟩ := hW
  have hA : DataW.TrodAll enc Try.prog W 0 (fun _ => true) true Try.f4.params.toList args.toList ds p := hA0
  rw [Try.params4] at hA hval
  obtain ⟨v0, vs0, d0, ds0, p0, q0, hargs, rfl, rfl, h0, r0⟩ := trodAll_cons hA
  obtain ⟨v1, vs1, d1, ds1, p1, q1, rfl, rfl, rfl, h1, r1⟩ := trodAll_cons r0
  obtain ⟨rfl, rfl, rfl⟩ := trodAll_nil r1
  obtain rfl : args = #[v0, v1] := by cases args; simp_all
  obtain ⟨rfl, rfl⟩ := trodVars_none hV
  have hltA := fun x hx => hW'.lt x hx
  obtain ⟨a0, R0, w0⟩ := open_row (hval 0 22 v0 rfl rfl) h0
  obtain ⟨a1, R1, w1⟩ := open_row (hval 1 22 v1 rfl rfl) h1
  clear hA0 hval0
  refine (walk_VecEncloses v0 a0 v1 a1 W R0 R1).mono fun e W' ⟨he, bel⟩ => ?_
  subst he
  exact ⟨_, rfl, _, _, _, [], _, [], hW', trodAll_mk1 (shut_bool Try.underlying4 _), (trodAll_cons_mk (Below.trod laid_VecEncloses (by kernel_rfl) (of_decide_eq_true (by kernel_rfl)) h0 bel (fun x hx => by have := hltA x (by simp [hx]); simpa using this)) (trodAll_cons_mk (Below.trod laid_VecEncloses (by kernel_rfl) (of_decide_eq_true (by kernel_rfl)) h1 bel (fun x hx => by have := hltA x (by simp [hx]); simpa using this)) trodAll_mk0)), rfl, Below.frame bel _, fun h => by cases h⟩

theorem proved_VecEncloses : Rows.VecEnclosesSaid :=
  OpenClaim.holds_of_wide 4 Try.f4 rfl rfl rfl rfl rfl rfl rfl ⟨rfl, rfl, rfl, rfl, rfl⟩ rfl rfl rfl rfl rfl (by kernel_rfl) Try.func4 (by kernel_rfl)
    (of_decide_eq_true (by kernel_rfl)) (by unfold Func.isWrapper; first | (rw [if_pos (by decide +kernel)]; kernel_rfl) | (rw [if_neg (by decide +kernel)]; exact ⟨rfl, rfl⟩))
    (fun os started H enc _ => lifted_VecEncloses os started H enc)
#print axioms proved_VecEncloses
end Go.Proofs.Ytfbioinmgchdcaa
