/- VecSteps: the dot, and the sum, of any enclosed numbers, are those of the document's steps, one by one (of 20 numbers). Conditions: none (every input). -/
import Derived.Test.YtfbioinmgchdcaaGF
import Derived.Test.YtfbioinmgchdcaaGN
import Derived.Test.YtfbioinmgchdcaaEnL
import Derived.Test.YtfbioinmgchdcaaEn5
import Derived.Test.YtfbioinmgchdcaaEnR
import Derived.Test.YtfbioinmgchdcaaFr6
import Derived.Test.YtfbioinmgchdcaaMid
import Derived.Deep.RegionHeld3
import Derived.Test.YtfbioinmgchdcaaQz
import Derived.Deep.RegionWith
import Derived.Test.YtfbioinmgchdcaaEn1
import Derived.ProofKit
import Derived.OpenShut
import Derived.Lib.SmallJoins
import Derived.Deep.Slices
import Derived.Carry
/- Whole numbers as points: their sums, products and dots, enclosed (layer 5's laws). Mathematics alone. -/
namespace Go.Proofs.Ytfbioinmgchdcaa
open Go.RowKit
set_option linter.unusedSimpArgs false
set_option linter.unusedVariables false

/-- The point of a whole number. -/
def itN (n : Int) : En := ⟨n * 16777216, n * 16777216, n * 16777216, false⟩
/-- It may be one. -/
def Wn (n : Int) : Prop := -67108864 ≤ n ∧ n ≤ 67108864
theorem fr_it {n : Int} (h : Wn n) : frB (n * 16777216) = true := frB_eq (by unfold Wn at h; omega)
theorem fineN_it {n : Int} (h : Wn n) : fineB (itN n) = true := pt_fine (fr_it h)
theorem ofN_it {n : Int} (h : Wn n) : ptE (foN n) (foB n) = itN n := by
  have h1 : foB n = true := by unfold foB; unfold Wn at h; simp; omega
  rw [h1]
  unfold foN
  rw [h1]
  rfl
theorem addN_it {a b : Int} (ha : Wn a) (hb : Wn b) (h : Wn (a + b)) : addE (itN a) (itN b) = itN (a + b) := by
  have e : a * 16777216 + b * 16777216 = (a + b) * 16777216 := by omega
  have t := fa_told (fr_it ha) (fr_it hb) (by rw [e]; exact fr_it h)
  have ok : okE bA (itN a) (itN b) (prs2 (itN a) (itN b)) = true := okE_iff.2 ⟨t.1, fineN_it ha, fineN_it hb, by rw [show prs2 (itN a) (itN b) = prs2 ⟨a * 16777216, a * 16777216, a * 16777216, false⟩ ⟨b * 16777216, b * 16777216, b * 16777216, false⟩ from rfl, (same_prs2 _ _).ok]; unfold bA; rw [t.1]; rfl⟩
  have e1 := told_ok (N := nA) ok
  unfold addE
  rw [e1]
  have hs : Same (prs2 (itN a) (itN b)) (a * 16777216) (b * 16777216) := same_prs2 _ _
  rw [hs.low bdA, hs.high bdA]
  have hn : ∀ m, nA (a * 16777216) (b * 16777216) m = (a + b) * 16777216 := fun m => by show faN _ _ = _; rw [t.2, e]
  show (⟨nA (a * 16777216) (b * 16777216) 0, _, _, false⟩ : En) = _
  rw [hn, hn, hn]
  rfl
theorem rnd_it (x c m : Int) (hc : 0 < c) : rnd (x * c) c m = x := by
  unfold rnd
  have h1 : x * c / c = x := Int.mul_ediv_cancel _ (by omega)
  have h2 : -(-(x * c) / c) = x := by rw [← Int.neg_mul, Int.mul_ediv_cancel _ (by omega), Int.neg_neg]
  split
  · exact h1
  · split
    · exact h2
    · unfold evn
      have h3 : x * c % c = 0 := Int.mul_emod_left x c
      rw [h1, h3]
      simp
      omega
theorem mulN_it {a b : Int} (ha : Wn a) (hb : Wn b) (h : Wn (a * b)) : mulE (itN a) (itN b) = itN (a * b) := by
  have ex : a * 16777216 * (b * 16777216) = a * b * 16777216 * 16777216 := by rw [← Int.mul_assoc, Int.mul_right_comm a 16777216 b]
  have t : ∀ m, MD m → fmB (a * 16777216) (b * 16777216) m = true ∧ fmN (a * 16777216) (b * 16777216) m = a * b * 16777216 := fun m hm => by
    have := fm_told (fr_it ha) (fr_it hb) hm (by rw [ex, rnd_it _ _ _ (by decide)]; exact fr_it h)
    rw [ex, rnd_it _ _ _ (by decide)] at this
    exact this
  have hs : Same (prs4 (itN a) (itN b)) (a * 16777216) (b * 16777216) := same_prs4 _ _
  have ok : okE fmB (itN a) (itN b) (prs4 (itN a) (itN b)) = true := okE_iff.2 ⟨(t 0 (.inl rfl)).1, fineN_it ha, fineN_it hb, by rw [hs.ok, (t 1 (.inr (.inl rfl))).1, (t 2 (.inr (.inr rfl))).1]; rfl⟩
  have e1 := told_ok (N := fmN) ok
  unfold mulE
  rw [e1, hs.low bdM, hs.high bdM]
  show (⟨fmN (a * 16777216) (b * 16777216) 0, _, _, false⟩ : En) = _
  rw [(t 0 (.inl rfl)).2, (t 1 (.inr (.inl rfl))).2, (t 2 (.inr (.inr rfl))).2]
  rfl
theorem foldN_it {B : Int} : ∀ (ns : List Int) (s : Int), Sml B ns → 0 ≤ B → -67108864 + B * ns.length ≤ s → s ≤ 67108864 - B * ns.length → (ns.map itN).foldl addE (itN s) = itN (s + ns.sum)
  | [], s, _, _, _, _ => by simp
  | n :: ns, s, h, hB, h1, h2 => by
    have hn := h.head
    simp only [List.length_cons, Int.natCast_add, Int.mul_add] at h1 h2
    have hp : 0 ≤ B * ns.length := Int.mul_nonneg hB (by omega)
    rw [List.map_cons, List.foldl_cons, addN_it ⟨by omega, by omega⟩ ⟨by omega, by omega⟩ ⟨by omega, by omega⟩, foldN_it ns (s + n) h.tail hB (by omega) (by omega), List.sum_cons]
    congr 1
    omega
theorem sumN_it {B : Int} (ns : List Int) (h : Sml B ns) (hB : 0 ≤ B) (hb : B * ns.length ≤ 67108864) : sumN (ns.map itN) = itN ns.sum := by
  unfold sumN
  rw [ofN_it (n := 0) ⟨by omega, by omega⟩, foldN_it ns 0 h hB (by omega) (by omega)]
  simp
theorem wholesN_it {B : Int} (ns : List Int) (h : Sml B ns) (hb : B ≤ 67108864) : ns.map wholeN = ns.map itN :=
  List.map_congr_left fun x hx => ofN_it (by have := h x hx; exact ⟨by omega, by omega⟩)
theorem mulsN_it {A B : Int} (hA : A ≤ 67108864) (hB : B ≤ 67108864) (hAB : A * B ≤ 67108864) : ∀ (xs ys : List Int), Sml A xs → Sml B ys → List.zipWith mulE (xs.map itN) (ys.map itN) = (List.zipWith (· * ·) xs ys).map itN
  | [], _, _, _ => by simp
  | _ :: _, [], _, _ => by simp
  | x :: xs, y :: ys, h, k => by
    have h1 := h.head
    have h2 := k.head
    have h3 := mul_bound h1 h2
    rw [List.map_cons, List.map_cons, List.zipWith_cons_cons, List.zipWith_cons_cons, List.map_cons, mulN_it ⟨by omega, by omega⟩ ⟨by omega, by omega⟩ ⟨by omega, by omega⟩, mulsN_it hA hB hAB xs ys h.tail k.tail]
theorem dotN_it {xs ys : List Int} (h : Sml 1000 xs) (k : Sml 1000 ys) (hl : xs.length ≤ 20) : dotN (xs.map itN) (ys.map itN) = itN (dotI xs ys) := by
  unfold dotN dotI
  rw [mulsN_it (by omega) (by omega) (by omega) xs ys h k]
  refine sumN_it (B := 1000 * 1000) _ (muls_sml h k) (by omega) ?_
  have hln : (List.zipWith (· * ·) xs ys).length ≤ 20 := by simp; omega
  omega
theorem encl_it {n : Int} (h : Wn n) : enclB (itN n) n 1 = true := by
  unfold enclB withinB
  rw [fineN_it h, rightB_eq (by unfold Wn at h; omega), rightB_eq (n := 1) (by omega)]
  simp [itN]
end Go.Proofs.Ytfbioinmgchdcaa

/- Steps of layer 5's VecSteps: equality of the document's numbers; sums, dots, one by one. -/
namespace Go.Proofs.Ytfbioinmgchdcaa
open Go.RowKit
set_option linter.unusedSimpArgs false
set_option linter.unusedVariables false

theorem Try.rnFields : Try.prog.underlying 43 = some (.struct (Try.prog.fieldsOf 43)) := by kernel_rfl
theorem Try.rnHeld : Try.prog.stoodInHeld 43 = false := by kernel_rfl
theorem Try.rnGuard : Try.prog.eqGuardType Try.prog.depth 43 = false := by kernel_rfl
theorem Try.rnList : (Try.prog.fieldsOf 43).toList.map (fun f => (f.name, f.type, f.offset)) = [("V", 3, 0), ("Low", 3, 1), ("High", 3, 2), ("Bad", 4, 3)] := by kernel_rfl
theorem eql_rn (a : En) (w : World) : (binOp .eql 43 (enV a) (enV a)).run Try.prog w = .ok (.bool true) w := by
  rw [run_eql_struct, run_equalIn_agg _ _ _ _ _ Try.rnFields Try.rnHeld]
  rw [eqFields_map 9999 #[.int .i64 a.v, .int .i64 a.l, .int .i64 a.h, .bool a.bad] #[.int .i64 a.v, .int .i64 a.l, .int .i64 a.h, .bool a.bad] _ [{ name := "V", type := 3, offset := 0, embedded := false, tag := "", pkgPath := "", byteOffset := 0 }, { name := "Low", type := 3, offset := 1, embedded := false, tag := "", pkgPath := "", byteOffset := 0 }, { name := "High", type := 3, offset := 2, embedded := false, tag := "", pkgPath := "", byteOffset := 0 }, { name := "Bad", type := 4, offset := 3, embedded := false, tag := "", pkgPath := "", byteOffset := 0 }] Try.rnList]
  simp [Op.eqFields, part, go_sem]
theorem sumN_nil : sumN [] = zeroE := by
  unfold sumN
  exact ofN_it (n := 0) ⟨by omega, by omega⟩
theorem dotN_snoc (xs ys : List En) (k : Nat) (x y : En) (hx : xs[k]? = some x) (hy : ys[k]? = some y) : dotN (xs.take (k + 1)) (ys.take (k + 1)) = addE (dotN (xs.take k) (ys.take k)) (mulE x y) := by
  have h1 := (List.getElem?_eq_some_iff.1 hx).1
  have h2 := (List.getElem?_eq_some_iff.1 hy).1
  unfold dotN sumN
  rw [List.take_add_one, List.take_add_one, hx, hy, List.zipWith_append (by simp; omega)]
  simp
theorem dotN_take (xs ys : List En) (k : Nat) (h : k = min xs.length ys.length) : dotN (xs.take k) (ys.take k) = dotN xs ys := by
  unfold dotN
  congr 1
  subst h
  rw [List.zipWith_eq_zipWith_take_min (l₁ := xs)]
theorem rqN_at {w : World} {p : Option Addr} {cap l : Nat} {xs : List En} (h : Rq 4 cellsN w (.slice p l cap) xs) {k : Nat} {x : En} (hk : xs[k]? = some x) : ∃ b o, p = some ⟨b, o, none⟩ ∧ ∀ u, Bl w u → u.cell? ⟨b, o + k * 4, none⟩ = some (.int .i64 x.v) ∧ u.cell? ⟨b, o + k * 4 + 1, none⟩ = some (.int .i64 x.l) ∧ u.cell? ⟨b, o + k * 4 + 2, none⟩ = some (.int .i64 x.h) ∧ u.cell? ⟨b, o + k * 4 + 3, none⟩ = some (.bool x.bad) := by
  rcases h with ⟨_, _, _, h0, _⟩ | ⟨b, o, c, e, _, hlt, HX⟩
  · rw [h0] at hk; simp at hk
  · cases e
    exact ⟨b, o, rfl, fun u hu => ⟨(bl_cell hu _ _ hlt).trans (HX k x hk 0 _ rfl), (bl_cell hu _ _ hlt).trans (HX k x hk 1 _ rfl), (bl_cell hu _ _ hlt).trans (HX k x hk 2 _ rfl), (bl_cell hu _ _ hlt).trans (HX k x hk 3 _ rfl)⟩⟩
end Go.Proofs.Ytfbioinmgchdcaa

/- What layer 5's laws ask with: Few, the document's Dot, awake. -/
namespace Go.Proofs.Ytfbioinmgchdcaa
open Go.RowKit
set_option linter.unusedSimpArgs false
set_option linter.unusedVariables false

/-- A whole number's cells. -/
abbrev cI : Int → List Value := fun n => [.int .i64 n]
theorem cellI {w wr : World} {b o : Nat} {ns : List Int} (HX : ∀ j x, ns[j]? = some x → ∀ k u, (cI x)[k]? = some u → w.cell? ⟨b, o + j * 1 + k, none⟩ = some u) {k : Nat} {x : Int} (hx : ns[k]? = some x) : w.cell? ⟨b, o + k, none⟩ = some (.int .i64 x) := by
  have := HX k x hx 0 _ rfl
  simpa using this
/-- What Few tells. -/
def FewP (ns : List Int) (w : World) (e : Ending) (w' : World) : Prop := ∃ b, e = .returned (.bool b) ∧ (b = true → ns.length ≤ 20 ∧ Sml 1000 ns) ∧ w' = w
theorem fewP {ns : List Int} {w : World} (b : Bool) (h : b = true → ns.length ≤ 20 ∧ Sml 1000 ns) : FewP ns w (.returned (.bool b)) w := ⟨b, rfl, h, rfl⟩
set_option maxHeartbeats 1000000 in
theorem few_any (v : Value) (ns : List Int) (w : World) (h : Rq 1 cI w v ns) :
    Calls Try.prog 9 #[v] w (FewP ns w) := by
  rcases h with ⟨p, cap, rfl, rfl, hpn⟩ | ⟨b, o, cap, rfl, hc, hb, hx⟩
  · go_enter Try.func9, Try.ntmps9
    go_wp2_with fail
    go_loopw [3] (fun i wr => i = .int .i64 0 ∧ wr = w) (fun _ _ => 0)
    case atStart => exact ⟨rfl, rfl⟩
    case round =>
      obtain ⟨rfl, rfl⟩ := hrel
      go_wp2
      go_ret
      exact fewP _ (fun _ => ⟨by simp, fun x hx => by simp at hx⟩)
  · have HX := hideP hx
    clear hx
    go_enter Try.func9, Try.ntmps9
    go_wp2_with fail
    go_loopw [3] (fun i wr => ∃ k : Nat, i = .int .i64 k ∧ k ≤ ns.length ∧ k ≤ 21 ∧ Sml 1000 (ns.take k) ∧ wr = w) (fun i _ => 21 - (intOf i).toNat)
    case atStart => exact ⟨0, rfl, Nat.zero_le _, Nat.zero_le _, fun x hx => by simp at hx, rfl⟩
    case round =>
      obtain ⟨k, rfl, hk, hk2, hS, rfl⟩ := hrel
      have HS := hideP hS
      clear hS
      by_cases hlt : k < ns.length ∧ k ≤ 20
      · obtain ⟨hlt, hlt2⟩ := hlt
        obtain ⟨x, hx⟩ : ∃ x, ns[k]? = some x := ⟨_, List.getElem?_eq_getElem hlt⟩
        have cx := cellI HX.out hx (wr := wr)
        have HT := hideP (show ns.take (k + 1) = ns.take k ++ [x] by rw [List.take_add_one, hx]; rfl)
        by_cases h1 : x < -1000
        · go_wp2
          go_ret
          exact fewP _ nofun
        · by_cases h2 : 1000 < x
          · go_wp2
            go_ret
            exact fewP _ nofun
          · go_wp2
            go_roundw
            case rel =>
              refine ⟨k + 1, by simp, hlt, by omega, ?_, trivial⟩
              rw [HT.out]
              intro y hy
              rcases List.mem_append.1 hy with hy | hy
              · exact HS.out y hy
              · simp at hy; omega
            case measure => simp [intOf]; omega
      · by_cases hl : ns.length ≤ 20
        · have hk' : k = ns.length := by omega
          subst hk'
          go_wp2
          go_ret
          exact fewP _ (fun _ => ⟨hl, by have := HS.out; rwa [List.take_length] at this⟩)
        · have hk' : 20 < k := by omega
          have hl' : 20 < ns.length := by omega
          go_wp2
          all_goals
            go_ret
            exact fewP _ (fun h => by simp at h; omega)
/-- The world behind awake's two rows of whole numbers. -/
theorem rq_new2 (w : World) (x y : Int) (t : TypeId) : Rq 1 cI (w.alloc (.cells #[.int .i64 x, .int .i64 y] t)) (.slice (some ⟨w.heap.size, 0, none⟩) 2 2) [x, y] := by
  refine .inr ⟨w.heap.size, 0, 2, rfl, Nat.le_refl _, by simp, fun j z hj k u hu => ?_⟩
  rcases k with _ | k
  · simp at hu
    subst hu
    rcases j with _ | _ | j
    · simp at hj; subst hj; simp [go_sem]
    · simp at hj; subst hj; simp [go_sem]
    · simp at hj
  · simp at hu
theorem dotI_snoc (xs ys : List Int) (k : Nat) (x y : Int) (hx : xs[k]? = some x) (hy : ys[k]? = some y) : dotI (xs.take (k + 1)) (ys.take (k + 1)) = dotI (xs.take k) (ys.take k) + x * y := by
  have h1 := (List.getElem?_eq_some_iff.1 hx).1
  have h2 := (List.getElem?_eq_some_iff.1 hy).1
  unfold dotI
  rw [List.take_add_one, List.take_add_one, hx, hy, List.zipWith_append (by simp; omega)]
  simp
theorem dotI_take (xs ys : List Int) (k : Nat) (h : k = min xs.length ys.length) : dotI (xs.take k) (ys.take k) = dotI xs ys := by
  unfold dotI
  congr 1
  subst h
  rw [List.zipWith_eq_zipWith_take_min (l₁ := xs)]
theorem sum_few {ns : List Int} (h : Sml 1000 ns) (hl : ns.length ≤ 20) : sumF (ns.map wholeF) = itF ns.sum := by
  rw [wholes_it ns h (by omega)]
  exact sum_it ns h (by omega) (by omega)
set_option maxHeartbeats 1000000 in
theorem refDot5_any (va vb : Value) (xs ys : List Int) (w : World) (ha : Rq 1 cI w va xs) (hb : Rq 1 cI w vb ys) (hx : Sml 1000 xs) (hy : Sml 1000 ys) (hl : xs.length ≤ 20) (hm : ys.length ≤ 20) :
    Calls Try.prog 17 #[va, vb] w fun e w' => e = .returned (.int .i64 (dotI xs ys)) ∧ Bl w w' := by
  obtain ⟨p, cap, rfl, hc, _⟩ := ha.cut
  obtain ⟨q, dap, rfl, hd, _⟩ := hb.cut
  have CA : ∀ k x, xs[k]? = some x → ∃ b o, p = some ⟨b, o, none⟩ ∧ b < w.heap.size ∧ w.cell? ⟨b, o + k, none⟩ = some (.int .i64 x) := by
    intro k x hk
    rcases ha with ⟨_, _, _, h0, _⟩ | ⟨b, o, c, e, _, hlt, HX⟩
    · rw [h0] at hk; simp at hk
    · cases e; exact ⟨b, o, rfl, hlt, cellI HX hk (wr := w)⟩
  have CB : ∀ k x, ys[k]? = some x → ∃ b o, q = some ⟨b, o, none⟩ ∧ b < w.heap.size ∧ w.cell? ⟨b, o + k, none⟩ = some (.int .i64 x) := by
    intro k x hk
    rcases hb with ⟨_, _, _, h0, _⟩ | ⟨b, o, c, e, _, hlt, HX⟩
    · rw [h0] at hk; simp at hk
    · cases e; exact ⟨b, o, rfl, hlt, cellI HX hk (wr := w)⟩
  have HCA := hideP CA
  have HCB := hideP CB
  have HX := hideP hx
  have HY := hideP hy
  clear CA CB ha hb hx hy
  have fm : Try.prog.follows .mixedOrders = true := by kernel_rfl
  go_enter Try.func17, Try.ntmps17
  go_wp2_with fail
  go_loopw [5, 6] (fun n i wr => ∃ k : Nat, i = .int .i64 k ∧ k ≤ xs.length ∧ k ≤ ys.length ∧ n = .int .i64 (dotI (xs.take k) (ys.take k)) ∧ Bl w wr) (fun _ i _ => xs.length - (intOf i).toNat)
  case atStart => exact ⟨0, rfl, Nat.zero_le _, Nat.zero_le _, by simp [dotI], Bl.refl _⟩
  case round =>
    obtain ⟨k, rfl, hk, hk2, rfl, bl⟩ := hrel
    by_cases h1 : k < xs.length
    · by_cases h2 : k < ys.length
      · obtain ⟨x, hx⟩ : ∃ x, xs[k]? = some x := ⟨_, List.getElem?_eq_getElem h1⟩
        obtain ⟨y, hy⟩ : ∃ y, ys[k]? = some y := ⟨_, List.getElem?_eq_getElem h2⟩
        obtain ⟨b, o, rfl, hb, cx⟩ := HCA.out k x hx
        obtain ⟨b', o', rfl, hb', cy⟩ := HCB.out k y hy
        have cx' := (bl_cell (bl.drew) _ (o + k) hb).trans cx
        have cy' := (bl_cell (bl.drew) _ (o' + k) hb').trans cy
        have bx := HX.out x (List.mem_of_getElem? hx)
        have bY := HY.out y (List.mem_of_getElem? hy)
        have bd := dotI_bound (HX.out.take k) (HY.out.take k) (by omega) (by omega) (by simp; omega)
        have bm := mul_bound bx bY
        have HN := hideP (dotI_snoc xs ys k x y hx hy)
        generalize dotI (xs.take k) (ys.take k) = d at *
        generalize hm' : x * y = m at *
        have w1 : wrap64 m = m := by unfold wrap64; omega
        have w2 : wrap64 (d + m) = d + m := by unfold wrap64; omega
        clear cx cy
        go_wp2
        go_region
        go_wp2
        go_roundw
        case rel => exact ⟨k + 1, by simp, h1, h2, by rw [HN.out], bl.drew⟩
        case measure => simp [intOf]; omega
      · rw [dotI_take xs ys k (by omega)]
        go_wp2
        go_ret
        exact ⟨rfl, bl⟩
    · rw [dotI_take xs ys k (by omega)]
      go_wp2
      go_ret
      exact ⟨rfl, bl⟩
end Go.Proofs.Ytfbioinmgchdcaa

/- Contracts in the words of layer 5's laws: few whole numbers, as fractions; awake. -/
namespace Go.Proofs.Ytfbioinmgchdcaa
open Go.RowKit
set_option linter.unusedSimpArgs false
set_option linter.unusedVariables false

theorem eqR_self (r : Fr) : eqR r r = true := eqR_iff.2 rfl
theorem eql_selfV (r : Fr) (w : World) : (binOp .eql 28 (frV r) (frV r)).run Try.prog w = .ok (.bool true) w := by rw [eql_fr, eqR_self]
theorem new_few {n : Int} (h : Wh n) (w : World) : Calls Try.prog 15 #[.int .i64 n, .int .i64 1] w fun e w' => e = .returned (frV (itF n)) ∧ Bl w w' := by
  rw [← new_it h]
  exact new_any n 1 w
/-- A row of whole numbers. -/
abbrev RwI (w : World) (v : Value) (ns : List Int) : Prop := Rw 3 cellsF w v (ns.map itF)
theorem rw_slice {w : World} {v : Value} {ns : List Int} (h : RwI w v ns) : ∃ p c, v = .slice p ns.length c ∧ ns.length ≤ c := by
  obtain ⟨p, c, e, h1, _⟩ := h.cut
  rw [List.length_map] at e h1
  exact ⟨p, c, e, h1⟩
theorem whole_few (v : Value) (ns : List Int) (w : World) (h : Rq 1 cI w v ns) (hs : Sml 1000 ns) (hl : ns.length ≤ 20) :
    Calls Try.prog 11 #[v] w fun e w' => ∃ p c, e = .returned (.slice p ns.length c) ∧ (RwI w' (.slice p ns.length c) ns ∧ ns.length ≤ c) ∧ Bl w w' := by
  refine (vWholeF v ns w h (by omega)).mono ?_
  rintro e w' ⟨u, rfl, hr, hb⟩
  rw [wholes_it ns hs (by omega)] at hr
  obtain ⟨p, c, rfl, hc⟩ := rw_slice hr
  exact ⟨p, c, rfl, ⟨hr, hc⟩, hb⟩
theorem add_few (va vb : Value) (xs ys : List Int) (w : World) (ha : RwI w va xs) (hb : RwI w vb ys) (hx : Sml 1000 xs) (hy : Sml 1000 ys) (hl : xs.length ≤ 20) (hm : ys.length ≤ 20) :
    Calls Try.prog 12 #[va, vb] w fun e w' => ∃ p c, e = .returned (.slice p (min xs.length ys.length) c) ∧ (RwI w' (.slice p (min xs.length ys.length) c) (List.zipWith (· + ·) xs ys) ∧ min xs.length ys.length ≤ c) ∧ Bl w w' := by
  refine (vAddF va vb _ _ w ha.q hb.q (by simp; omega) (by simp; omega)).mono ?_
  rintro e w' ⟨u, rfl, hr, hb⟩
  rw [adds_it (A := 1000) (B := 1000) (by omega) (by omega) (by omega) xs ys hx hy] at hr
  obtain ⟨p, c, rfl, hc⟩ := rw_slice hr
  rw [List.length_zipWith] at hr hc ⊢
  exact ⟨p, c, rfl, ⟨hr, hc⟩, hb⟩
theorem sub_few (va vb : Value) (xs ys : List Int) (w : World) (ha : RwI w va xs) (hb : RwI w vb ys) (hx : Sml 1000 xs) (hy : Sml 1000 ys) (hl : xs.length ≤ 20) (hm : ys.length ≤ 20) :
    Calls Try.prog 13 #[va, vb] w fun e w' => ∃ p c, e = .returned (.slice p (min xs.length ys.length) c) ∧ (RwI w' (.slice p (min xs.length ys.length) c) (List.zipWith (· - ·) xs ys) ∧ min xs.length ys.length ≤ c) ∧ Bl w w' := by
  refine (vSubF va vb _ _ w ha.q hb.q (by simp; omega) (by simp; omega)).mono ?_
  rintro e w' ⟨u, rfl, hr, hb⟩
  rw [subs_it (A := 1000) (B := 1000) (by omega) (by omega) (by omega) xs ys hx hy] at hr
  obtain ⟨p, c, rfl, hc⟩ := rw_slice hr
  rw [List.length_zipWith] at hr hc ⊢
  exact ⟨p, c, rfl, ⟨hr, hc⟩, hb⟩
theorem scale_few (v : Value) (xs : List Int) (b : Int) (w : World) (h : RwI w v xs) (hx : Sml 1000 xs) (hb : -1000 ≤ b ∧ b ≤ 1000) (hl : xs.length ≤ 20) :
    Calls Try.prog 14 #[v, frV (itF b)] w fun e w' => ∃ p c, e = .returned (.slice p xs.length c) ∧ (RwI w' (.slice p xs.length c) (xs.map (· * b)) ∧ xs.length ≤ c) ∧ Bl w w' := by
  refine (vScaleF v _ (itF b) w h (by simp; omega)).mono ?_
  rintro e w' ⟨u, rfl, hr, hbl⟩
  rw [scale_it (A := 1000) (B := 1000) (by omega) (by omega) (by omega) hb xs hx] at hr
  obtain ⟨p, c, rfl, hc⟩ := rw_slice hr
  rw [List.length_map] at hr hc ⊢
  exact ⟨p, c, rfl, ⟨hr, hc⟩, hbl⟩
theorem dot_few {A B : Int} (va vb : Value) (xs ys : List Int) (w : World) (ha : RwI w va xs) (hb : RwI w vb ys) (hx : Sml A xs) (hy : Sml B ys) (hA : 0 ≤ A ∧ A ≤ 100000) (hB : 0 ≤ B ∧ B ≤ 2000) (hAB : A * B ≤ 53687091) (hl : xs.length ≤ 20) (hm : ys.length ≤ 20) :
    Calls Try.prog 16 #[va, vb] w fun e w' => e = .returned (frV (itF (dotI xs ys))) ∧ Bl w w' := by
  rw [← dot_it hx hy hA hB hl hAB]
  exact vDotF va vb _ _ w ha.q hb.q (by simp; omega) (by simp; omega)
theorem sum_few' (v : Value) (xs : List Int) (w : World) (h : RwI w v xs) (hx : Sml 1000 xs) (hl : xs.length ≤ 20) :
    Calls Try.prog 18 #[v] w fun e w' => e = .returned (frV (itF xs.sum)) ∧ Bl w w' := by
  rw [← sum_it (B := 1000) xs hx (by omega) (by omega)]
  exact vsumF v _ w h.q (by simp; omega)
theorem sml12 : Sml 1000 [1, 2] := by intro x hx; simp at hx; omega
theorem sml34 : Sml 1000 [3, 4] := by intro x hx; simp at hx; omega
set_option maxHeartbeats 1000000 in
theorem awake5_any (w : World) : Calls Try.prog 10 #[] w fun e w' => e = .returned (.bool true) ∧ Bl w w' := by
  have EG := Try.frGuard
  have e1 := eql_selfV (itF 11)
  have e2 := eql_selfV (itF 3)
  go_enter Try.func10, Try.ntmps10
  go_wp2_with fail
  refine (whole_few _ [1, 2] _ (rq_new2 w 1 2 _) sml12 (by simp)).mono ?_
  rintro e w1 ⟨p, c, rfl, r1, h1⟩
  have R1 : Hid (RwI w1 (.slice p 2 c) [1, 2]) := hideP r1.1
  clear r1
  go_wp2_with fail
  refine (whole_few _ [3, 4] _ (rq_new2 w1 3 4 _) sml34 (by simp)).mono ?_
  rintro e w2 ⟨q, d, rfl, r2, h2⟩
  have R2 : Hid (RwI w2 (.slice q 2 d) [3, 4]) := hideP r2.1
  have B2 : Bl w1 w2 := ((Bl.refl _).alloc _).trans h2
  clear r2
  go_wp2_with fail
  refine (dot_few (A := 1000) (B := 1000) _ _ [1, 2] [3, 4] _ (R1.out.later B2) R2.out sml12 sml34 (by omega) (by omega) (by omega) (by simp) (by simp)).mono ?_
  rintro e w3 ⟨rfl, h3⟩
  rw [show dotI [1, 2] [3, 4] = 11 by decide]
  go_wp2_with fail
  refine (new_few (n := 11) ⟨by omega, by omega⟩ _).mono ?_
  rintro e w4 ⟨rfl, h4⟩
  go_wp2_with fail
  refine (add_few _ _ [1, 2] [3, 4] _ (R1.out.later (B2.trans (h3.trans h4))) (R2.out.later (h3.trans h4)) sml12 sml34 (by simp) (by simp)).mono ?_
  rintro e w5 ⟨p5, c5, rfl, r5, h5⟩
  clear r5
  go_wp2_with fail
  refine (sum_few' _ [1, 2] _ (R1.out.later (B2.trans (h3.trans (h4.trans h5)))) sml12 (by simp)).mono ?_
  rintro e w6 ⟨rfl, h6⟩
  rw [show ([1, 2] : List Int).sum = 3 by decide]
  go_wp2_with fail
  refine (new_few (n := 3) ⟨by omega, by omega⟩ _).mono ?_
  rintro e w7 ⟨rfl, h7⟩
  go_wp2
  go_ret
  exact ⟨rfl, (((Bl.refl w).alloc _).trans h1).trans (B2.trans (h3.trans (h4.trans (h5.trans (h6.trans h7)))))⟩
end Go.Proofs.Ytfbioinmgchdcaa

/- A stretch of a region that draws its order, by what holds between its operations, whatever their order (no fence). -/
namespace Go.Proofs.Ytfbioinmgchdcaa
open Go.RowKit
set_option linter.unusedSimpArgs false
set_option linter.unusedVariables false

/-- k operations are to come in this stretch: I holds between them. -/
theorem wpAny_phase {P : Program} {md : Region.Mode} {ops : Array Oper} {Q : Exit → Act → World → Prop} {fuel : Nat} (I : Nat → Array Bool → Act → World → Prop)
    (fin : ∀ l a w, I 0 l a w → wpAny P md ops Q fuel l a w)
    (live : ∀ k l a w, I (k + 1) l a w → Region.ready md ops l = [] → False)
    (step : ∀ k l a w i, I (k + 1) l a w → l.getD i true = false → (∀ e, (∃ o, ops[i]? = some o ∧ e ∈ o.after) → Region.binds md e = true → l.getD e.on false = true) → wpOp P ops Q i (fun a' w' => I k (l.setIfInBounds i true) a' w') a w) :
    ∀ (k : Nat) (l : Array Bool) (a : Act) (w : World), I k l a w → wpAny P md ops Q (fuel + k) l a w
  | 0, l, a, w, h => fin l a w h
  | k + 1, l, a, w, h => ⟨fun h0 => (live k l a w h h0).elim, fun i hi => by
      obtain ⟨h1, o, ho, hall⟩ := mem_ready.1 hi
      refine wpOp_mono (fun a' w' h' => wpAny_phase I fin live step k _ a' w' h') (step k l a w i h h1 (fun e ⟨o', ho', he⟩ hb => ?_))
      rw [ho] at ho'
      cases ho'
      exact hall e he hb⟩
theorem wpAny_name {P : Program} {md : Region.Mode} {ops : Array Oper} {Q : Exit → Act → World → Prop} {fuel : Nat} {l : Array Bool} {a : Act} {w : World} (h : ∀ A0, A0 = a → wpAny P md ops Q fuel l A0 w) : wpAny P md ops Q fuel l a w := h a rfl
/-- One more to come. -/
def onem (b : Bool) : Nat := if b then 0 else 1
theorem getD_ltp {l : Array Bool} {i : Nat} (h : l.getD i true = false) : i < l.size := by
  rcases Nat.lt_or_ge i l.size with h' | h'
  · exact h'
  · simp [Array.getD, Nat.not_lt.2 h'] at h
end Go.Proofs.Ytfbioinmgchdcaa

/- The walk of VecSteps. Written by genVs.py. -/
namespace Go.Proofs.Ytfbioinmgchdcaa
open Go.RowKit
set_option linter.unusedSimpArgs false
set_option linter.unusedVariables false

theorem steps_out (p q : Option Addr) (la lb cap dap : Nat) (w : World) (h : 20 < la ∨ (¬ 20 < la ∧ 20 < lb)) :
    Calls Try.prog 5 #[.slice p la cap, .slice q lb dap] w fun e w' => e = .returned (.bool true) ∧ Bl w w' := by
  have AW := hideP awake5_any
  rcases h with h | ⟨h1, h⟩
  all_goals
    go_enter Try.func5, Try.ntmps5
    go_wp2_with fail
    refine (AW.out _).mono ?_
    rintro e w2 ⟨rfl, h2⟩
    go_wp2
    go_ret
    exact ⟨rfl, h2⟩
/-- Between two operations of the statement that adds a product. -/
def StepI (A0 : Act) (x y z d t : En) (W : World) (k : Nat) (l : Array Bool) (act : Act) (u : World) : Prop :=
  ∃ (l0 l4 l5 l9 l10 l11 l12 : Bool) (v40 v44 v45 v49 v50 v51 v52 : Value), l = #[l0, true, true, true, l4, l5, true, true, true, l9, l10, l11, l12, false] ∧ k = onem l0 + onem l4 + onem l5 + onem l9 + onem l10 + onem l11 + onem l12 ∧ act = (((((((A0.put (some 40) v40).put (some 44) v44).put (some 45) v45).put (some 49) v49).put (some 50) v50).put (some 51) v51).put (some 52) v52)
    ∧ (l0 = true → v40 = enV d) ∧ (l4 = true → v44 = enV x) ∧ (l5 = true → v45 = enV x) ∧ (l9 = true → v49 = enV y) ∧ (l10 = true → v50 = enV y) ∧ (l11 = true → v51 = enV z) ∧ (l12 = true → v52 = enV t) ∧ Bl W u
/-- Two variables that are laid. -/
structure TwoN (w W : World) : Prop where
  eq : W = (w.alloc (.cells #[.int .i64 0, .int .i64 0, .int .i64 0, .bool false] 43)).alloc (.cells #[.int .i64 0, .int .i64 0, .int .i64 0, .bool false] 43)
  bl : Bl w W
  b0 : Box W w.heap.size zeroE
  b1 : Box W (w.heap.size + 1) zeroE
theorem twoN_ex (w : World) : ∃ W, TwoN w W := by
  refine ⟨_, rfl, ((Bl.refl _).alloc _).alloc _, (Box.new w zeroE 43).later ((Bl.refl _).alloc _), ?_⟩
  have := Box.new (w.alloc (.cells #[.int .i64 0, .int .i64 0, .int .i64 0, .bool false] 43)) zeroE 43
  rw [World.size_alloc] at this
  exact this
set_option maxRecDepth 100000 in
set_option maxHeartbeats 8000000 in
theorem steps_main (p q : Option Addr) (cap dap : Nat) (la lb : Nat) (xs ys : List En) (w : World) (ha : Rq 4 cellsN w (.slice p la cap) xs) (hb : Rq 4 cellsN w (.slice q lb dap) ys) (ea : xs.length = la) (eb : ys.length = lb) (hl : la ≤ 20) (hm : lb ≤ 20) :
    Calls Try.prog 5 #[.slice p la cap, .slice q lb dap] w fun e w' => e = .returned (.bool true) ∧ Bl w w' := by
  have AW := hideP awake5_any
  have HA := hideP ha
  have HB := hideP hb
  have La := hideP ea
  have Lb := hideP eb
  clear ha hb ea eb
  obtain ⟨m, hmin⟩ : ∃ m, m = min la lb := ⟨_, rfl⟩
  have hm0 : min (la : Int) (lb : Int) = (m : Int) := by omega
  have hm1 : (if lb < la then (lb : Int) else (la : Int)) = (m : Int) := by split <;> omega
  have hma : m ≤ la := by omega
  have hmb : m ≤ lb := by omega
  have HM := hideP hmin
  clear hmin
  obtain ⟨W, X⟩ := twoN_ex w
  have HX := hideP X
  clear X
  have fm : Try.prog.follows .mixedOrders = true := by kernel_rfl
  go_enter Try.func5, Try.ntmps5
  go_wp2_with fail
  rw [← HX.out.eq]
  go_loopw [23] (fun i wr => ∃ k : Nat, i = .int .i64 k ∧ k ≤ la ∧ Box wr w.heap.size (sumN (xs.take k)) ∧ Box wr (w.heap.size + 1) zeroE ∧ Bl w wr) (fun i _ => la - (intOf i).toNat)
  case atStart => exact ⟨0, rfl, Nat.zero_le _, by rw [List.take_zero, sumN_nil]; exact HX.out.b0, HX.out.b1, HX.out.bl⟩
  case round =>
    obtain ⟨k, rfl, hk, bs, bd, hbl⟩ := hrel
    by_cases hlt : k < la
    · obtain ⟨x, hx⟩ : ∃ x, xs[k]? = some x := ⟨_, List.getElem?_eq_getElem (by rw [La.out]; exact hlt)⟩
      obtain ⟨ba, oa, rfl, CA⟩ := rqN_at HA.out hx
      obtain ⟨x0, x1, x2, x3⟩ := CA wr hbl
      have SN := hideP (sumN_snoc xs k x hx)
      have BS := hideP bs
      have BD := hideP bd
      have HBL := hideP hbl
      generalize hsu : sumN (xs.take k) = s at *
      clear bs bd hx CA hbl hsu
      go_wp2_with fail
      obtain ⟨V, hV⟩ : ∃ V, V = wr.alloc (.cells #[.int .i64 x.v, .int .i64 x.l, .int .i64 x.h, .bool x.bad] 37) := ⟨_, rfl⟩
      rw [← hV]
      have bV : Bl wr V := by rw [hV]; exact (Bl.refl _).alloc _
      have BX := hideP (show Box V wr.heap.size x by rw [hV]; exact Box.new wr x _)
      have hne : wr.heap.size ≠ w.heap.size := by have := BS.out.lt; omega
      clear hV x0 x1 x2 x3
      have KP := hideP (fun (u : World) (hu : Bl V u) => show u.cell? ⟨wr.heap.size, 0, none⟩ = some (.int .i64 x.v) ∧ u.cell? ⟨wr.heap.size, 1, none⟩ = some (.int .i64 x.l) ∧ u.cell? ⟨wr.heap.size, 2, none⟩ = some (.int .i64 x.h) ∧ u.cell? ⟨wr.heap.size, 3, none⟩ = some (.bool x.bad) from ⟨(BX.out.later hu).c0, (BX.out.later hu).c1, (BX.out.later hu).c2, (BX.out.later hu).c3⟩)
      have KQ := hideP (fun (u : World) (y0 y1 y2 y3 : Value) (hu : Bl V u) => show ((((u.setCell ⟨w.heap.size, 0, none⟩ y0).setCell ⟨w.heap.size, 1, none⟩ y1).setCell ⟨w.heap.size, 2, none⟩ y2).setCell ⟨w.heap.size, 3, none⟩ y3).cell? ⟨wr.heap.size, 0, none⟩ = some (.int .i64 x.v) ∧ ((((u.setCell ⟨w.heap.size, 0, none⟩ y0).setCell ⟨w.heap.size, 1, none⟩ y1).setCell ⟨w.heap.size, 2, none⟩ y2).setCell ⟨w.heap.size, 3, none⟩ y3).cell? ⟨wr.heap.size, 1, none⟩ = some (.int .i64 x.l) ∧ ((((u.setCell ⟨w.heap.size, 0, none⟩ y0).setCell ⟨w.heap.size, 1, none⟩ y1).setCell ⟨w.heap.size, 2, none⟩ y2).setCell ⟨w.heap.size, 3, none⟩ y3).cell? ⟨wr.heap.size, 2, none⟩ = some (.int .i64 x.h) ∧ ((((u.setCell ⟨w.heap.size, 0, none⟩ y0).setCell ⟨w.heap.size, 1, none⟩ y1).setCell ⟨w.heap.size, 2, none⟩ y2).setCell ⟨w.heap.size, 3, none⟩ y3).cell? ⟨wr.heap.size, 3, none⟩ = some (.bool x.bad) from ⟨((BX.out.later hu).oth hne y0 y1 y2 y3).c0, ((BX.out.later hu).oth hne y0 y1 y2 y3).c1, ((BX.out.later hu).oth hne y0 y1 y2 y3).c2, ((BX.out.later hu).oth hne y0 y1 y2 y3).c3⟩)
      have BS2 := hideP (BS.out.later bV)
      have BD2 := hideP (BD.out.later bV)
      have HBV := hideP (HBL.out.trans bV)
      have HNE := hideP hne
      clear hne bV BS BD HBL
      have D0 := hideP (fun u => do0 s x u)
      generalize addE s x = t at *
      obtain ⟨s0, s1, s2, s3, sf0, sf1, sf2, sf3, sl⟩ := BS2.out.later ((Bl.refl V).drew)
      obtain ⟨t0, t1, t2, t3, tf0, tf1, tf2, tf3, tl⟩ := BX.out.later ((Bl.refl V).drew)
      go_region_with (first
          | (go_at_call 23; refine (given_any x _).mono ?_; rintro e w1 ⟨rfl, h1⟩; obtain ⟨g0, g1, g2, g3, gf0, gf1, gf2, gf3, gl⟩ := BS2.out.later (show Bl V w1 from (by repeat (first | exact Bl.refl _ | apply Bl.drew | (refine Bl.trans ?_ (by assumption))))); obtain ⟨gx0, gx1, gx2, gx3, gxf0, gxf1, gxf2, gxf3, gxl⟩ := BX.out.later (show Bl V w1 from (by repeat (first | exact Bl.refl _ | apply Bl.drew | (refine Bl.trans ?_ (by assumption))))))
          | (go_at_call 22; refine (D0.out _).mono ?_; rintro e w2 ⟨rfl, h2⟩; obtain ⟨d0, d1, d2, d3, df0, df1, df2, df3, dl⟩ := BS2.out.later (show Bl V w2 from (by repeat (first | exact Bl.refl _ | apply Bl.drew | (refine Bl.trans ?_ (by assumption)))))))
      all_goals
        have hB2 : Bl V w2 := (by repeat (first | exact Bl.refl _ | apply Bl.drew | (refine Bl.trans ?_ (by assumption))))
        have bs2 := (BS2.out.later hB2).fill t
        have bd2 := (BD2.out.later hB2).oth (show w.heap.size + 1 ≠ w.heap.size by omega) (.int .i64 t.v) (.int .i64 t.l) (.int .i64 t.h) (.bool t.bad)
        have bl2 : Bl w _ := Bl.set4 (HBV.out.trans hB2) (Nat.le_refl _) (.int .i64 t.v) (.int .i64 t.l) (.int .i64 t.h) (.bool t.bad)
        have R := hideP (show _ ∧ _ ∧ _ from ⟨bs2, bd2, bl2⟩)
        clear bs2 bd2 bl2
        go_wp2
        go_roundw
        case rel => exact ⟨k + 1, by simp, hlt, by rw [SN.out]; exact R.out.1, R.out.2.1, R.out.2.2⟩
        case measure => simp [intOf]; omega
    · have hk' : k = la := by omega
      rw [hk', ← La.out, List.take_length] at bs
      have BS := hideP bs
      have HBL := hideP hbl
      clear bs hk'
      generalize hsu : sumN xs = s at *
      go_wp2_with fail
      go_loopw [37] (fun i wr => ∃ k : Nat, i = .int .i64 k ∧ k ≤ m ∧ Box wr w.heap.size s ∧ Box wr (w.heap.size + 1) (dotN (xs.take k) (ys.take k)) ∧ Bl w wr) (fun i _ => m - (intOf i).toNat)
      case atStart => exact ⟨0, rfl, Nat.zero_le _, BS.out, by rw [List.take_zero, List.take_zero]; unfold dotN; rw [List.zipWith_nil_left, sumN_nil]; exact bd, hbl⟩
      case round =>
        clear BS HBL bd hbl hlt hk
        obtain ⟨k, rfl, hk, bs, bd, hbl⟩ := hrel
        by_cases hlt : k < m
        · obtain ⟨x, hx⟩ : ∃ x, xs[k]? = some x := ⟨_, List.getElem?_eq_getElem (by rw [La.out]; omega)⟩
          obtain ⟨y, hy⟩ : ∃ y, ys[k]? = some y := ⟨_, List.getElem?_eq_getElem (by rw [Lb.out]; omega)⟩
          obtain ⟨ba, oa, rfl, CA⟩ := rqN_at HA.out hx
          obtain ⟨bb, ob, rfl, CB⟩ := rqN_at HB.out hy
          have SN := hideP (dotN_snoc xs ys k x y hx hy)
          have BS := hideP bs
          have BD := hideP bd
          have KP := hideP (fun (u : World) (hu : Bl w u) => show u.cell? ⟨ba, oa + k * 4, none⟩ = some (.int .i64 x.v) ∧ u.cell? ⟨ba, oa + k * 4 + 1, none⟩ = some (.int .i64 x.l) ∧ u.cell? ⟨ba, oa + k * 4 + 2, none⟩ = some (.int .i64 x.h) ∧ u.cell? ⟨ba, oa + k * 4 + 3, none⟩ = some (.bool x.bad) ∧ u.cell? ⟨bb, ob + k * 4, none⟩ = some (.int .i64 y.v) ∧ u.cell? ⟨bb, ob + k * 4 + 1, none⟩ = some (.int .i64 y.l) ∧ u.cell? ⟨bb, ob + k * 4 + 2, none⟩ = some (.int .i64 y.h) ∧ u.cell? ⟨bb, ob + k * 4 + 3, none⟩ = some (.bool y.bad) from ⟨(CA u hu).1, (CA u hu).2.1, (CA u hu).2.2.1, (CA u hu).2.2.2, (CB u hu).1, (CB u hu).2.1, (CB u hu).2.2.1, (CB u hu).2.2.2⟩)
          generalize dotN (xs.take k) (ys.take k) = d at *
          have D2 := hideP (fun u => do2 x y u)
          generalize mulE x y = z at *
          have D0 := hideP (fun u => do0 d z u)
          generalize addE d z = t at *
          have CX := hideP CA
          have CY := hideP CB
          clear bs bd hx hy CA CB KP
          have hkla : k < la := by omega
          have hklb : k < lb := by omega
          go_wp2_with fail
          refine wp_region_noPanic ?_
          refine wp_region_any fm ?_
          change wpAny _ _ _ _ _ _ _ (World.drew _)
          refine wpAny_take (i := 1) (oi := _) (v := .slice (some ⟨ba, oa, none⟩) la cap) rfl (by kernel_rfl) (by kernel_rfl) (by kernel_rfl) (fun _ _ _ h => h) (Or.inl ⟨by rfl, ?_⟩) ?_
          · intro u
            go_simp
          try simp only [Act.put, List.getElem_toArray, List.getElem_cons_zero, List.getElem_cons_succ, List.setIfInBounds_toArray, List.set_cons_zero, List.set_cons_succ]
          refine wpAny_take (i := 2) (oi := _) (v := .int .i64 k) rfl (by kernel_rfl) (by kernel_rfl) (by kernel_rfl) (fun _ _ _ h => h) (Or.inl ⟨by rfl, ?_⟩) ?_
          · intro u
            go_simp
          try simp only [Act.put, List.getElem_toArray, List.getElem_cons_zero, List.getElem_cons_succ, List.setIfInBounds_toArray, List.set_cons_zero, List.set_cons_succ]
          refine wpAny_take (i := 3) (oi := _) (v := .pointer (some ⟨ba, oa + k * 4, none⟩)) rfl (by kernel_rfl) (by kernel_rfl) (by kernel_rfl) (fun _ _ _ h => h) (Or.inl ⟨by rfl, ?_⟩) ?_
          · intro u
            go_simp
          try simp only [Act.put, List.getElem_toArray, List.getElem_cons_zero, List.getElem_cons_succ, List.setIfInBounds_toArray, List.set_cons_zero, List.set_cons_succ]
          refine wpAny_take (i := 6) (oi := _) (v := .slice (some ⟨bb, ob, none⟩) lb dap) rfl (by kernel_rfl) (by kernel_rfl) (by kernel_rfl) (fun _ _ _ h => h) (Or.inl ⟨by rfl, ?_⟩) ?_
          · intro u
            go_simp
          try simp only [Act.put, List.getElem_toArray, List.getElem_cons_zero, List.getElem_cons_succ, List.setIfInBounds_toArray, List.set_cons_zero, List.set_cons_succ]
          refine wpAny_take (i := 7) (oi := _) (v := .int .i64 k) rfl (by kernel_rfl) (by kernel_rfl) (by kernel_rfl) (fun _ _ _ h => h) (Or.inl ⟨by rfl, ?_⟩) ?_
          · intro u
            go_simp
          try simp only [Act.put, List.getElem_toArray, List.getElem_cons_zero, List.getElem_cons_succ, List.setIfInBounds_toArray, List.set_cons_zero, List.set_cons_succ]
          refine wpAny_take (i := 8) (oi := _) (v := .pointer (some ⟨bb, ob + k * 4, none⟩)) rfl (by kernel_rfl) (by kernel_rfl) (by kernel_rfl) (fun _ _ _ h => h) (Or.inl ⟨by rfl, ?_⟩) ?_
          · intro u
            go_simp
          try simp only [Act.put, List.getElem_toArray, List.getElem_cons_zero, List.getElem_cons_succ, List.setIfInBounds_toArray, List.set_cons_zero, List.set_cons_succ]
          refine wpAny_name (fun A0 hA0 => ?_)
          have HA0 := hideP hA0
          clear hA0
          refine wpAny_phase (fuel := 1) (StepI A0 x y z d t wr) ?fin ?live ?step 7 _ _ _ ⟨false, false, false, false, false, false, false, u40, u44, u45, u49, u50, u51, u52, rfl, rfl, by rw [HA0.out]; simp only [Act.put, List.getElem_toArray, List.getElem_cons_zero, List.getElem_cons_succ, List.setIfInBounds_toArray, List.set_cons_zero, List.set_cons_succ], nofun, nofun, nofun, nofun, nofun, nofun, nofun, (Bl.refl _).drew⟩
          case live =>
            intro kk l act u h h0
            obtain ⟨l0, l4, l5, l9, l10, l11, l12, v40, v44, v45, v49, v50, v51, v52, rfl, hkk, rfl, e0, e4, e5, e9, e10, e11, e12, hB⟩ := h
            rw [List.eq_nil_iff_forall_not_mem] at h0
            cases l0
            · exact h0 0 (mem_ready.2 ⟨rfl, _, rfl, fun e he => by simp at he⟩)
            cases l4
            · exact h0 4 (mem_ready.2 ⟨rfl, _, rfl, fun e he hb => by simp at he; first | exact he.elim | (rcases he with rfl | rfl | rfl <;> rfl) | (rcases he with rfl | rfl <;> rfl) | (rcases he with rfl; rfl)⟩)
            cases l5
            · exact h0 5 (mem_ready.2 ⟨rfl, _, rfl, fun e he hb => by simp at he; first | exact he.elim | (rcases he with rfl | rfl | rfl <;> rfl) | (rcases he with rfl | rfl <;> rfl) | (rcases he with rfl; rfl)⟩)
            cases l9
            · exact h0 9 (mem_ready.2 ⟨rfl, _, rfl, fun e he hb => by simp at he; first | exact he.elim | (rcases he with rfl | rfl | rfl <;> rfl) | (rcases he with rfl | rfl <;> rfl) | (rcases he with rfl; rfl)⟩)
            cases l10
            · exact h0 10 (mem_ready.2 ⟨rfl, _, rfl, fun e he hb => by simp at he; first | exact he.elim | (rcases he with rfl | rfl | rfl <;> rfl) | (rcases he with rfl | rfl <;> rfl) | (rcases he with rfl; rfl)⟩)
            cases l11
            · exact h0 11 (mem_ready.2 ⟨rfl, _, rfl, fun e he hb => by simp at he; first | exact he.elim | (rcases he with rfl | rfl | rfl <;> rfl) | (rcases he with rfl | rfl <;> rfl) | (rcases he with rfl; rfl)⟩)
            cases l12
            · exact h0 12 (mem_ready.2 ⟨rfl, _, rfl, fun e he hb => by simp at he; first | exact he.elim | (rcases he with rfl | rfl | rfl <;> rfl) | (rcases he with rfl | rfl <;> rfl) | (rcases he with rfl; rfl)⟩)
            simp [onem] at hkk
          case step =>
            intro kk l act u i h hi' hall
            obtain ⟨l0, l4, l5, l9, l10, l11, l12, v40, v44, v45, v49, v50, v51, v52, rfl, hkk, rfl, e0, e4, e5, e9, e10, e11, e12, hB⟩ := h
            have hlt2 := getD_ltp hi'
            simp only [List.size_toArray, List.length_cons, List.length_nil] at hlt2
            obtain ⟨xa0, xa1, xa2, xa3⟩ := CX.out u (hbl.trans hB)
            obtain ⟨ya0, ya1, ya2, ya3⟩ := CY.out u (hbl.trans hB)
            obtain ⟨s0, s1, s2, s3, sf0, sf1, sf2, sf3, sl⟩ := BD.out.later hB
            rcases (by omega : i = 0 ∨ i = 1 ∨ i = 2 ∨ i = 3 ∨ i = 4 ∨ i = 5 ∨ i = 6 ∨ i = 7 ∨ i = 8 ∨ i = 9 ∨ i = 10 ∨ i = 11 ∨ i = 12 ∨ i = 13) with rfl | rfl | rfl | rfl | rfl | rfl | rfl | rfl | rfl | rfl | rfl | rfl | rfl | rfl
            · skip
              have hl0 : l0 = false := hi'
              subst hl0
              have E0 := hideP e0
              have E4 := hideP e4
              have E5 := hideP e5
              have E9 := hideP e9
              have E10 := hideP e10
              have E11 := hideP e11
              have E12 := hideP e12
              have HKK := hideP hkk
              have HBu := hideP hB
              clear e0 e4 e5 e9 e10 e11 e12 hkk hB hi' hall
              refine wpOp_step (o := _) rfl (fun K' hK0 => ?_)
              have hK' := hideP hK0
              clear hK0
              rw [HA0.out]
              try simp only [Act.put, List.getElem_toArray, List.getElem_cons_zero, List.getElem_cons_succ, List.setIfInBounds_toArray, List.set_cons_zero, List.set_cons_succ]
              go_simp
              exact hK'.out _ _ ⟨true, l4, l5, l9, l10, l11, l12, (enV d), v44, v45, v49, v50, v51, v52, rfl, by have := HKK.out; simp [onem] at this ⊢; omega, by rw [HA0.out]; simp only [Act.put, List.getElem_toArray, List.getElem_cons_zero, List.getElem_cons_succ, List.setIfInBounds_toArray, List.set_cons_zero, List.set_cons_succ], fun _ => rfl, E4.out, E5.out, E9.out, E10.out, E11.out, E12.out, HBu.out⟩
            · exact Bool.noConfusion (show true = false from hi')
            · exact Bool.noConfusion (show true = false from hi')
            · exact Bool.noConfusion (show true = false from hi')
            · skip
              have hl0 : l4 = false := hi'
              subst hl0
              have E0 := hideP e0
              have E4 := hideP e4
              have E5 := hideP e5
              have E9 := hideP e9
              have E10 := hideP e10
              have E11 := hideP e11
              have E12 := hideP e12
              have HKK := hideP hkk
              have HBu := hideP hB
              clear e0 e4 e5 e9 e10 e11 e12 hkk hB hi' hall
              refine wpOp_step (o := _) rfl (fun K' hK0 => ?_)
              have hK' := hideP hK0
              clear hK0
              rw [HA0.out]
              try simp only [Act.put, List.getElem_toArray, List.getElem_cons_zero, List.getElem_cons_succ, List.setIfInBounds_toArray, List.set_cons_zero, List.set_cons_succ]
              go_simp
              exact hK'.out _ _ ⟨l0, true, l5, l9, l10, l11, l12, v40, (enV x), v45, v49, v50, v51, v52, rfl, by have := HKK.out; simp [onem] at this ⊢; omega, by rw [HA0.out]; simp only [Act.put, List.getElem_toArray, List.getElem_cons_zero, List.getElem_cons_succ, List.setIfInBounds_toArray, List.set_cons_zero, List.set_cons_succ], E0.out, fun _ => rfl, E5.out, E9.out, E10.out, E11.out, E12.out, HBu.out⟩
            · skip
              have hl0 : l5 = false := hi'
              subst hl0
              have q4 : l4 = true := hall ⟨4, .data⟩ ⟨_, rfl, by simp⟩ rfl
              obtain rfl := e4 q4
              clear q4
              have E0 := hideP e0
              have E4 := hideP e4
              have E5 := hideP e5
              have E9 := hideP e9
              have E10 := hideP e10
              have E11 := hideP e11
              have E12 := hideP e12
              have HKK := hideP hkk
              have HBu := hideP hB
              clear e0 e4 e5 e9 e10 e11 e12 hkk hB hi' hall
              refine wpOp_step (o := _) rfl (fun K' hK0 => ?_)
              have hK' := hideP hK0
              clear hK0
              rw [HA0.out]
              try simp only [Act.put, List.getElem_toArray, List.getElem_cons_zero, List.getElem_cons_succ, List.setIfInBounds_toArray, List.set_cons_zero, List.set_cons_succ]
              go_simp
              refine (given_any x _).mono ?_
              rintro e w4 ⟨rfl, h4⟩
              try go_wp2_with fail
              exact hK'.out _ _ ⟨l0, l4, true, l9, l10, l11, l12, v40, (enV x), (enV x), v49, v50, v51, v52, rfl, by have := HKK.out; simp [onem] at this ⊢; omega, by rw [HA0.out]; simp only [Act.put, List.getElem_toArray, List.getElem_cons_zero, List.getElem_cons_succ, List.setIfInBounds_toArray, List.set_cons_zero, List.set_cons_succ], E0.out, fun _ => rfl, fun _ => rfl, E9.out, E10.out, E11.out, E12.out, HBu.out.trans h4⟩
            · exact Bool.noConfusion (show true = false from hi')
            · exact Bool.noConfusion (show true = false from hi')
            · exact Bool.noConfusion (show true = false from hi')
            · skip
              have hl0 : l9 = false := hi'
              subst hl0
              have E0 := hideP e0
              have E4 := hideP e4
              have E5 := hideP e5
              have E9 := hideP e9
              have E10 := hideP e10
              have E11 := hideP e11
              have E12 := hideP e12
              have HKK := hideP hkk
              have HBu := hideP hB
              clear e0 e4 e5 e9 e10 e11 e12 hkk hB hi' hall
              refine wpOp_step (o := _) rfl (fun K' hK0 => ?_)
              have hK' := hideP hK0
              clear hK0
              rw [HA0.out]
              try simp only [Act.put, List.getElem_toArray, List.getElem_cons_zero, List.getElem_cons_succ, List.setIfInBounds_toArray, List.set_cons_zero, List.set_cons_succ]
              go_simp
              exact hK'.out _ _ ⟨l0, l4, l5, true, l10, l11, l12, v40, v44, v45, (enV y), v50, v51, v52, rfl, by have := HKK.out; simp [onem] at this ⊢; omega, by rw [HA0.out]; simp only [Act.put, List.getElem_toArray, List.getElem_cons_zero, List.getElem_cons_succ, List.setIfInBounds_toArray, List.set_cons_zero, List.set_cons_succ], E0.out, E4.out, E5.out, fun _ => rfl, E10.out, E11.out, E12.out, HBu.out⟩
            · skip
              have hl0 : l10 = false := hi'
              subst hl0
              have q9 : l9 = true := hall ⟨9, .data⟩ ⟨_, rfl, by simp⟩ rfl
              obtain rfl := e9 q9
              clear q9
              have q5 : l5 = true := hall ⟨5, .chain⟩ ⟨_, rfl, by simp⟩ rfl
              clear q5
              have E0 := hideP e0
              have E4 := hideP e4
              have E5 := hideP e5
              have E9 := hideP e9
              have E10 := hideP e10
              have E11 := hideP e11
              have E12 := hideP e12
              have HKK := hideP hkk
              have HBu := hideP hB
              clear e0 e4 e5 e9 e10 e11 e12 hkk hB hi' hall
              refine wpOp_step (o := _) rfl (fun K' hK0 => ?_)
              have hK' := hideP hK0
              clear hK0
              rw [HA0.out]
              try simp only [Act.put, List.getElem_toArray, List.getElem_cons_zero, List.getElem_cons_succ, List.setIfInBounds_toArray, List.set_cons_zero, List.set_cons_succ]
              go_simp
              refine (given_any y _).mono ?_
              rintro e w4 ⟨rfl, h4⟩
              try go_wp2_with fail
              exact hK'.out _ _ ⟨l0, l4, l5, l9, true, l11, l12, v40, v44, v45, (enV y), (enV y), v51, v52, rfl, by have := HKK.out; simp [onem] at this ⊢; omega, by rw [HA0.out]; simp only [Act.put, List.getElem_toArray, List.getElem_cons_zero, List.getElem_cons_succ, List.setIfInBounds_toArray, List.set_cons_zero, List.set_cons_succ], E0.out, E4.out, E5.out, fun _ => rfl, fun _ => rfl, E11.out, E12.out, HBu.out.trans h4⟩
            · skip
              have hl0 : l11 = false := hi'
              subst hl0
              have q5 : l5 = true := hall ⟨5, .data⟩ ⟨_, rfl, by simp⟩ rfl
              obtain rfl := e5 q5
              clear q5
              have q10 : l10 = true := hall ⟨10, .data⟩ ⟨_, rfl, by simp⟩ rfl
              obtain rfl := e10 q10
              clear q10
              have E0 := hideP e0
              have E4 := hideP e4
              have E5 := hideP e5
              have E9 := hideP e9
              have E10 := hideP e10
              have E11 := hideP e11
              have E12 := hideP e12
              have HKK := hideP hkk
              have HBu := hideP hB
              clear e0 e4 e5 e9 e10 e11 e12 hkk hB hi' hall
              refine wpOp_step (o := _) rfl (fun K' hK0 => ?_)
              have hK' := hideP hK0
              clear hK0
              rw [HA0.out]
              try simp only [Act.put, List.getElem_toArray, List.getElem_cons_zero, List.getElem_cons_succ, List.setIfInBounds_toArray, List.set_cons_zero, List.set_cons_succ]
              go_simp
              refine (D2.out _).mono ?_
              rintro e w4 ⟨rfl, h4⟩
              try go_wp2_with fail
              exact hK'.out _ _ ⟨l0, l4, l5, l9, l10, true, l12, v40, v44, (enV x), v49, (enV y), (enV z), v52, rfl, by have := HKK.out; simp [onem] at this ⊢; omega, by rw [HA0.out]; simp only [Act.put, List.getElem_toArray, List.getElem_cons_zero, List.getElem_cons_succ, List.setIfInBounds_toArray, List.set_cons_zero, List.set_cons_succ], E0.out, E4.out, fun _ => rfl, E9.out, fun _ => rfl, fun _ => rfl, E12.out, HBu.out.trans h4⟩
            · skip
              have hl0 : l12 = false := hi'
              subst hl0
              have q0 : l0 = true := hall ⟨0, .data⟩ ⟨_, rfl, by simp⟩ rfl
              obtain rfl := e0 q0
              clear q0
              have q11 : l11 = true := hall ⟨11, .data⟩ ⟨_, rfl, by simp⟩ rfl
              obtain rfl := e11 q11
              clear q11
              have E0 := hideP e0
              have E4 := hideP e4
              have E5 := hideP e5
              have E9 := hideP e9
              have E10 := hideP e10
              have E11 := hideP e11
              have E12 := hideP e12
              have HKK := hideP hkk
              have HBu := hideP hB
              clear e0 e4 e5 e9 e10 e11 e12 hkk hB hi' hall
              refine wpOp_step (o := _) rfl (fun K' hK0 => ?_)
              have hK' := hideP hK0
              clear hK0
              rw [HA0.out]
              try simp only [Act.put, List.getElem_toArray, List.getElem_cons_zero, List.getElem_cons_succ, List.setIfInBounds_toArray, List.set_cons_zero, List.set_cons_succ]
              go_simp
              refine (D0.out _).mono ?_
              rintro e w4 ⟨rfl, h4⟩
              try go_wp2_with fail
              exact hK'.out _ _ ⟨l0, l4, l5, l9, l10, l11, true, (enV d), v44, v45, v49, v50, (enV z), (enV t), rfl, by have := HKK.out; simp [onem] at this ⊢; omega, by rw [HA0.out]; simp only [Act.put, List.getElem_toArray, List.getElem_cons_zero, List.getElem_cons_succ, List.setIfInBounds_toArray, List.set_cons_zero, List.set_cons_succ], fun _ => rfl, E4.out, E5.out, E9.out, E10.out, fun _ => rfl, fun _ => rfl, HBu.out.trans h4⟩
            · exfalso
              have q0 : l0 = true := hall ⟨0, .phase⟩ ⟨_, rfl, by simp⟩ rfl
              have q4 : l4 = true := hall ⟨4, .phase⟩ ⟨_, rfl, by simp⟩ rfl
              have q5 : l5 = true := hall ⟨5, .phase⟩ ⟨_, rfl, by simp⟩ rfl
              have q9 : l9 = true := hall ⟨9, .phase⟩ ⟨_, rfl, by simp⟩ rfl
              have q10 : l10 = true := hall ⟨10, .phase⟩ ⟨_, rfl, by simp⟩ rfl
              have q11 : l11 = true := hall ⟨11, .phase⟩ ⟨_, rfl, by simp⟩ rfl
              have q12 : l12 = true := hall ⟨12, .phase⟩ ⟨_, rfl, by simp⟩ rfl
              rw [q0, q4, q5, q9, q10, q11, q12] at hkk
              simp [onem] at hkk
          case fin =>
            intro l act u h
            obtain ⟨l0, l4, l5, l9, l10, l11, l12, v40, v44, v45, v49, v50, v51, v52, rfl, hkk, rfl, e0, e4, e5, e9, e10, e11, e12, hB⟩ := h
            obtain ⟨rfl, rfl, rfl, rfl, rfl, rfl, rfl⟩ : l0 = true ∧ l4 = true ∧ l5 = true ∧ l9 = true ∧ l10 = true ∧ l11 = true ∧ l12 = true := by
              cases l0 <;> cases l4 <;> cases l5 <;> cases l9 <;> cases l10 <;> cases l11 <;> cases l12 <;> first | exact ⟨rfl, rfl, rfl, rfl, rfl, rfl, rfl⟩ | (simp [onem] at hkk)
            obtain rfl := e0 rfl
            obtain rfl := e4 rfl
            obtain rfl := e5 rfl
            obtain rfl := e9 rfl
            obtain rfl := e10 rfl
            obtain rfl := e11 rfl
            obtain rfl := e12 rfl
            clear e0 e4 e5 e9 e10 e11 e12 hkk
            obtain ⟨s0, s1, s2, s3, sf0, sf1, sf2, sf3, sl⟩ := BD.out.later hB
            rw [HA0.out]
            try simp only [Act.put, List.getElem_toArray, List.getElem_cons_zero, List.getElem_cons_succ, List.setIfInBounds_toArray, List.set_cons_zero, List.set_cons_succ]
            refine wpAny_ready (rs := [13]) (by kernel_rfl) (by simp) ?_
            refine AllReady.cons (i := 13) (o := _) rfl (fun K' hK0 => ?_) AllReady.nil
            have hK' := hideP hK0
            clear hK0
            try simp only [List.getElem_toArray, List.getElem_cons_zero, List.getElem_cons_succ]
            go_simp
            refine hK'.out _ _ ?_
            refine wpAny_done (by kernel_rfl) ?_ _
            refine NoPanic.normal ?_
            have bd2 := (BD.out.later hB).fill t
            have bs2 := (BS.out.later hB).oth (show w.heap.size ≠ w.heap.size + 1 by omega) (.int .i64 t.v) (.int .i64 t.l) (.int .i64 t.h) (.bool t.bad)
            have bl2 : Bl w _ := Bl.set4 (hbl.trans hB) (Nat.le_succ w.heap.size) (.int .i64 t.v) (.int .i64 t.l) (.int .i64 t.h) (.bool t.bad)
            have RR := hideP (show _ ∧ _ ∧ _ from ⟨bs2, bd2, bl2⟩)
            clear bs2 bd2 bl2
            try dsimp only [Act.put]
            go_wp2
            go_roundw
            case rel => exact ⟨k + 1, by simp, hlt, RR.out.1, by rw [SN.out]; exact RR.out.2.1, RR.out.2.2⟩
            case measure => simp [intOf]; omega
        · have hk' : k = m := by omega
          rw [dotN_take xs ys k (by rw [hk', La.out, Lb.out]; exact HM.out)] at bd
          generalize hdu : dotN xs ys = d at *
          have HSU := hideP hsu
          have HDU := hideP hdu
          clear hsu hdu hk'
          go_wp2_with fail
          have EG := Try.rnGuard
          have e1 := eql_rn s
          have e2 := eql_rn d
          have S1 := hideP (fun z : Wl wr => by have := vsumN (.slice p la cap) xs z.w (HA.out.later (hbl.trans z.bl)) (by rw [La.out]; omega); rw [HSU.out] at this; exact this)
          have D1 := hideP (fun z : Wl wr => by have := vDotN (.slice p la cap) (.slice q lb dap) xs ys z.w (HA.out.later (hbl.trans z.bl)) (HB.out.later (hbl.trans z.bl)) (by rw [La.out]; omega) (by rw [Lb.out]; omega); rw [HDU.out] at this; exact this)
          have wne := wl_ne wr
          obtain ⟨c0, c1, c2, c3⟩ := bs.wl
          obtain ⟨d0, d1, d2, d3⟩ := bd.wl
          refine wl_region wr (Bl.refl _) (by kernel_rfl) (by kernel_rfl) ?_
          repeat (go_big_quiet_step (first
            | (go_at_call 24; exact wl_call (S1.out _))
            | (go_at_call 19; exact wl_call (D1.out _))
            | (go_at_call_of 23 #[enV s]; exact wl_call (given_any s _))
            | (go_at_call_of 23 #[enV d]; exact wl_call (given_any d _))
            | (go_at_call 10; exact wl_call (AW.out _))))
          refine wpQuiet_nil ?_
          intro _ hw'
          obtain ⟨z, hw''⟩ := hw'
          subst hw''
          clear wne c0 c1 c2 c3 d0 d1 d2 d3
          obtain ⟨w3, h3⟩ := z
          dsimp only
          go_wp2
          go_ret
          exact ⟨rfl, hbl.trans h3⟩
theorem walk_VecSteps (va : Value) (xs : List En) (vb : Value) (ys : List En) (w : World) (ha : Rq 4 cellsN w va xs) (hb : Rq 4 cellsN w vb ys) :
    Calls Try.prog 5 #[va, vb] w fun e w' => e = .returned (.bool true) ∧ Bl w w' := by
  obtain ⟨p, cap, rfl, _, _⟩ := ha.cut
  obtain ⟨q, dap, rfl, _, _⟩ := hb.cut
  by_cases hl : xs.length ≤ 20
  · by_cases hm : ys.length ≤ 20
    · exact steps_main p q cap dap _ _ xs ys w ha hb rfl rfl hl hm
    · exact steps_out p q _ _ cap dap w (.inr ⟨by omega, by omega⟩)
  · exact steps_out p q _ _ cap dap w (.inl (by omega))
end Go.Proofs.Ytfbioinmgchdcaa

/- An enclosed number as an argument: opened, and shut. -/
namespace Go.Proofs.Ytfbioinmgchdcaa
open Go.ChangeShapes Go.WideShapes Go.ChangeAt Go.RowKit Go.Joins
set_option linter.unusedVariables false

theorem cellsNum : Try.prog.cellsOf 37 = 4 := by kernel_rfl
/-- As the statement's data have it. -/
abbrev numD {H : Type} (a : En) : DataW H := .agg [.lit (.int .i64 a.v), .lit (.int .i64 a.l), .lit (.int .i64 a.h), .lit (.bool a.bad)]
/-- Its numbers are of 64 bits. -/
structure NumW (a : En) : Prop where
  v : (Lit.int .i64 a.v).wf = true
  l : (Lit.int .i64 a.l).wf = true
  h : (Lit.int .i64 a.h).wf = true
set_option maxRecDepth 1000000 in
theorem open_num {H : Type} {enc : TypeId × Value → H} {W : World} {base b0 : Nat} {spare : Nat → Bool} {held : Bool} {v : Value} {d : DataW H} {p : List MemPlace}
    (hv : Value.okWide Try.prog W .any b0 37 v) (h : DataW.Trod enc Try.prog W base spare held 37 v d p) : ∃ a : En, v = enV a ∧ d = numD a ∧ p = [] ∧ NumW a := by
  obtain ⟨c0, c1, c2, c3, y0, y1, y2, y3, m, rfl, rfl, rfl, hy0, hy1, hy2, hy3⟩ := open_agg4 Try.underlying37 (by kernel_rfl) cellsNum hv h
  obtain ⟨x, e0, rfl, wx⟩ := DataW.trod_int Try.underlying3 hy0
  obtain ⟨y, e1, rfl, wy⟩ := DataW.trod_int Try.underlying3 hy1
  obtain ⟨z, e2, rfl, wz⟩ := DataW.trod_int Try.underlying3 hy2
  obtain ⟨b, e3, rfl⟩ := DataW.trod_bool Try.underlying4 hy3
  simp at e0 e1 e2 e3
  subst e0 e1 e2 e3
  exact ⟨⟨x, y, z, b⟩, rfl, rfl, rfl, wx, wy, wz⟩
set_option maxRecDepth 1000000 in
theorem shut_num {H : Type} {enc : TypeId × Value → H} {W : World} {base : Nat} {spare : Nat → Bool} {held : Bool} {a : En} (w : NumW a) : DataW.Trod enc Try.prog W base spare held 37 (enV a) (numD a) [] :=
  shut_agg4 (y0 := (.lit (.int .i64 a.v), [])) (y1 := (.lit (.int .i64 a.l), [])) (y2 := (.lit (.int .i64 a.h), [])) (y3 := (.lit (.bool a.bad), [])) Try.underlying37 (by kernel_rfl) cellsNum
    ⟨1, by simp [DataW.trod, Try.underlying3, w.v]⟩ ⟨1, by simp [DataW.trod, Try.underlying3, w.l]⟩ ⟨1, by simp [DataW.trod, Try.underlying3, w.h]⟩ ⟨1, by simp [DataW.trod, Try.underlying4]⟩
end Go.Proofs.Ytfbioinmgchdcaa

/- A slice of enclosed numbers as an argument: opened. -/
namespace Go.Proofs.Ytfbioinmgchdcaa
open Go.ChangeShapes Go.WideShapes Go.ChangeAt Go.RowKit Go.Joins Go.Deep
set_option linter.unusedVariables false

set_option maxRecDepth 1000000 in
theorem num_cells {H : Type} {enc : TypeId × Value → H} {W : World} {base : Nat} {spare : Nat → Bool} {held : Bool} {n : Nat} {cs : List Value} {y : DataW H × List MemPlace}
    (h : DataW.trod enc Try.prog W base spare held n 37 cs = some y) : ∃ a : En, cs = cellsN a := by
  obtain ⟨y0, y1, y2, y3, m, _, hl, h0, h1, h2, h3⟩ := trod_struct4 Try.underlying37 h
  rw [cellsNum] at hl
  match cs, hl with
  | [c0, c1, c2, c3], _ =>
    have hone : oneCellFields Try.prog (Try.prog.fieldsOf 37) = true := by kernel_rfl
    have k1 : Try.prog.cellsOf 3 = 1 := by kernel_rfl
    have k2 : Try.prog.cellsOf 4 = 1 := by kernel_rfl
    simp only [k1, k2, List.drop_zero, List.drop_succ_cons, List.take_succ_cons, List.take_zero] at h0 h1 h2 h3
    obtain ⟨x, e0, _, wx⟩ := DataW.trod_int Try.underlying3 h0
    obtain ⟨y, e1, _, wy⟩ := DataW.trod_int Try.underlying3 h1
    obtain ⟨z, e2, _, wz⟩ := DataW.trod_int Try.underlying3 h2
    obtain ⟨b, e3, _⟩ := DataW.trod_bool Try.underlying4 h3
    simp at e0 e1 e2 e3
    subst e0 e1 e2 e3
    exact ⟨⟨x, y, z, b⟩, rfl⟩
set_option maxRecDepth 1000000 in
theorem open_nums {H : Type} {enc : TypeId × Value → H} {W : World} {b0 : Nat} {v : Value} {d : DataW H} {p : List MemPlace}
    (hv : Value.okWide Try.prog W .any b0 39 v) (h : DataW.Trod enc Try.prog W 0 (fun _ => true) true 39 v d p) : ∃ ns : List En, Rq 4 cellsN W v ns := by
  obtain ⟨a0, len, cap, rfl⟩ := okWide_slice Try.underlying39 hv
  obtain ⟨fuel, hf⟩ := h
  rcases open_slice Try.underlying39 hf with ⟨hcs, hx⟩ | ⟨a, len', cap', m, n, D, Pl, hcs, _, hl, hm, hmm, hx, hcell⟩
  · simp [Value.cells] at hcs
    obtain ⟨rfl, rfl, rfl⟩ := hcs
    exact ⟨[], .inl ⟨none, 0, rfl, rfl, fun _ => rfl⟩⟩
  · simp [Value.cells] at hcs
    obtain ⟨rfl, rfl, rfl⟩ := hcs
    simp only [if_true] at hmm
    subst hmm
    by_cases h0 : len = 0
    · subst h0
      exact ⟨[], .inl ⟨some a, m, rfl, rfl, nofun⟩⟩
    · rw [cellsNum] at hcell
      have each : ∀ i, i < len → ∃ e : En, W.cells? 0 (a.add (i * 4)) 4 = some (cellsN e) := fun i hi => by
        obtain ⟨cs', h1, h2⟩ := hcell i (by omega)
        obtain ⟨e, rfl⟩ := num_cells h2
        exact ⟨e, h1⟩
      have inh : Inhabited En := ⟨⟨0, 0, 0, false⟩⟩
      obtain ⟨E, hE⟩ := choose_lt each
      have c00 := (World.cells?_some (hE 0 (by omega))).2.2 0 (by omega)
      obtain ⟨b, off, spot⟩ := a
      have hs : spot = none := by
        have : W.cell? ⟨b, off, spot⟩ = some (.int .i64 (E 0).v) := by simpa [Addr.add, cellsN] using c00
        exact World.cell?_spot this
      subst hs
      have hb : b < W.heap.size := by
        have : W.cell? ⟨b, off, none⟩ = some (.int .i64 (E 0).v) := by simpa [Addr.add, cellsN] using c00
        exact block_lt_of_cell this
      refine ⟨(List.range len).map E, .inr ⟨b, off, m, by simp, by simp; omega, hb, fun j x hj k u hu => ?_⟩⟩
      have hj2 : j < len := by have := (List.getElem?_eq_some_iff.1 hj).1; simpa using this
      rw [List.getElem?_map, List.getElem?_range hj2] at hj
      have hx' : E j = x := by simpa using hj
      subst hx'
      have hk : k < 4 := by have := (List.getElem?_eq_some_iff.1 hu).1; simpa [cellsN] using this
      have := (World.cells?_some (hE j hj2)).2.2 k hk
      rw [add_plain, add_plain, hu] at this
      exact this
end Go.Proofs.Ytfbioinmgchdcaa

/- VecSteps: the dot, and the sum, of any enclosed numbers, are those of the document's steps, one by one (of 20 numbers). Conditions: none (every input). -/
namespace Go.Proofs.Ytfbioinmgchdcaa
open Go.ChangeShapes Go.WideShapes Go.ChangeAt Go.RowKit
set_option linter.unusedVariables false

theorem own_VecSteps : ownKnob Try.prog.godebug = none := by kernel_rfl
theorem laid_VecSteps : laidOutB Try.prog = true := by kernel_rfl
set_option maxRecDepth 100000 in
theorem lifted_VecSteps (os : Os) (started : os.Started) (H : Type) (enc : TypeId × Value → H) :
    ReturnsInHanded {} Try.checked os 5 .any (Rows.vecStepsSpec.pre6 enc Try.prog Try.f5 Rows.vecStepsRow.domain false) (Rows.vecStepsSpec.post enc Try.prog Try.f5 false true false false) := by
  refine returnsInHanded_of_change (C := Try.checked) own_VecSteps started (by kernel_rfl) Try.func5
    (ChangeSpec.witness6 (enc := enc) (C := Try.checked) false ⟨#[], #[.slice none 0 0, .slice none 0 0], []⟩ 8 (by kernel_rfl) (by kernel_rfl) (by kernel_rfl) (by kernel_rfl)) ?_
  intro W base args ds gs before hval0 hW hcnd _
  have hval : ∀ (j : Nat) t v, Try.f5.params[j]? = some t → args[j]? = some v → Value.okWide Try.prog W .any base t v := hval0
  have hW' := hW
  obtain ⟨p, q, hA0, hV, rfl, hfz, hnd⟩ := hW
  have hA : DataW.TrodAll enc Try.prog W 0 (fun _ => true) true Try.f5.params.toList args.toList ds p := hA0
  rw [Try.params5] at hA hval
  obtain ⟨v0, vs0, d0, ds0, p0, q0, hargs, rfl, rfl, h0, r0⟩ := trodAll_cons hA
  obtain ⟨v1, vs1, d1, ds1, p1, q1, rfl, rfl, rfl, h1, r1⟩ := trodAll_cons r0
  obtain ⟨rfl, rfl, rfl⟩ := trodAll_nil r1
  obtain rfl : args = #[v0, v1] := by cases args; simp_all
  obtain ⟨rfl, rfl⟩ := trodVars_none hV
  have hltA := fun x hx => hW'.lt x hx
  obtain ⟨a0, R0⟩ := open_nums (hval 0 39 v0 rfl rfl) h0
  obtain ⟨a1, R1⟩ := open_nums (hval 1 39 v1 rfl rfl) h1
  clear hA0 hval0
  refine (walk_VecSteps v0 a0 v1 a1 W R0 R1).mono fun e W' ⟨he, bel⟩ => ?_
  subst he
  exact ⟨_, rfl, _, _, _, [], _, [], hW', trodAll_mk1 (shut_bool Try.underlying4 _), (trodAll_cons_mk (Below.trod laid_VecSteps (by kernel_rfl) (of_decide_eq_true (by kernel_rfl)) h0 bel (fun x hx => by have := hltA x (by simp [hx]); simpa using this)) (trodAll_cons_mk (Below.trod laid_VecSteps (by kernel_rfl) (of_decide_eq_true (by kernel_rfl)) h1 bel (fun x hx => by have := hltA x (by simp [hx]); simpa using this)) trodAll_mk0)), rfl, Below.frame bel _, fun h => by cases h⟩

theorem proved_VecSteps : Rows.VecStepsSaid :=
  OpenClaim.holds_of_wide 5 Try.f5 rfl rfl rfl rfl rfl rfl rfl ⟨rfl, rfl, rfl, rfl, rfl⟩ rfl rfl rfl rfl rfl (by kernel_rfl) Try.func5 (by kernel_rfl)
    (of_decide_eq_true (by kernel_rfl)) (by unfold Func.isWrapper; first | (rw [if_pos (by decide +kernel)]; kernel_rfl) | (rw [if_neg (by decide +kernel)]; exact ⟨rfl, rfl⟩))
    (fun os started H enc _ => lifted_VecSteps os started H enc)
#print axioms proved_VecSteps
end Go.Proofs.Ytfbioinmgchdcaa
