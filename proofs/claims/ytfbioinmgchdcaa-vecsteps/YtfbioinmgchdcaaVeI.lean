/- What layer 5's laws ask with: Few, the document's Dot, awake. -/
import Derived.Test.YtfbioinmgchdcaaVeM
namespace Go.Proofs.Ytfbioinmgchdcaa
open Go.RowKit
set_option linter.unusedSimpArgs false
set_option linter.unusedVariables false

/-- A whole number's cells. -/
abbrev cI : Int → List Value := fun n => [.int .i64 n]
theorem cellI {w wr : World} {b o : Nat} {ns : List Int} (HX : ∀ j x, ns[j]? = some x → ∀ k u, (cI x)[k]? = some u → w.cell? ⟨b, o + j * 1 + k, none⟩ = some u) {k : Nat} {x : Int} (hx : ns[k]? = some x) : w.cell? ⟨b, o + k, none⟩ = some (.int .i64 x) := by
  have := HX k x hx 0 _ rfl
  simpa using this
/-- What Few tells. -/
def FewP (ns : List Int) (w : World) (e : Ending) (w' : World) : Prop := ∃ b, e = .returned (.bool b) ∧ (b = true → ns.length ≤ 20 ∧ Sml 1000 ns) ∧ w' = w
theorem fewP {ns : List Int} {w : World} (b : Bool) (h : b = true → ns.length ≤ 20 ∧ Sml 1000 ns) : FewP ns w (.returned (.bool b)) w := ⟨b, rfl, h, rfl⟩
set_option maxHeartbeats 1000000 in
theorem few_any (v : Value) (ns : List Int) (w : World) (h : Rq 1 cI w v ns) :
    Calls Try.prog 9 #[v] w (FewP ns w) := by
  rcases h with ⟨p, cap, rfl, rfl, hpn⟩ | ⟨b, o, cap, rfl, hc, hb, hx⟩
  · go_enter Try.func9, Try.ntmps9
    go_wp2_with fail
    go_loopw [3] (fun i wr => i = .int .i64 0 ∧ wr = w) (fun _ _ => 0)
    case atStart => exact ⟨rfl, rfl⟩
    case round =>
      obtain ⟨rfl, rfl⟩ := hrel
      go_wp2
      go_ret
      exact fewP _ (fun _ => ⟨by simp, fun x hx => by simp at hx⟩)
  · have HX := hideP hx
    clear hx
    go_enter Try.func9, Try.ntmps9
    go_wp2_with fail
    go_loopw [3] (fun i wr => ∃ k : Nat, i = .int .i64 k ∧ k ≤ ns.length ∧ k ≤ 21 ∧ Sml 1000 (ns.take k) ∧ wr = w) (fun i _ => 21 - (intOf i).toNat)
    case atStart => exact ⟨0, rfl, Nat.zero_le _, Nat.zero_le _, fun x hx => by simp at hx, rfl⟩
    case round =>
      obtain ⟨k, rfl, hk, hk2, hS, rfl⟩ := hrel
      have HS := hideP hS
      clear hS
      by_cases hlt : k < ns.length ∧ k ≤ 20
      · obtain ⟨hlt, hlt2⟩ := hlt
        obtain ⟨x, hx⟩ : ∃ x, ns[k]? = some x := ⟨_, List.getElem?_eq_getElem hlt⟩
        have cx := cellI HX.out hx (wr := wr)
        have HT := hideP (show ns.take (k + 1) = ns.take k ++ [x] by rw [List.take_add_one, hx]; rfl)
        by_cases h1 : x < -1000
        · go_wp2
          go_ret
          exact fewP _ nofun
        · by_cases h2 : 1000 < x
          · go_wp2
            go_ret
            exact fewP _ nofun
          · go_wp2
            go_roundw
            case rel =>
              refine ⟨k + 1, by simp, hlt, by omega, ?_, trivial⟩
              rw [HT.out]
              intro y hy
              rcases List.mem_append.1 hy with hy | hy
              · exact HS.out y hy
              · simp at hy; omega
            case measure => simp [intOf]; omega
      · by_cases hl : ns.length ≤ 20
        · have hk' : k = ns.length := by omega
          subst hk'
          go_wp2
          go_ret
          exact fewP _ (fun _ => ⟨hl, by have := HS.out; rwa [List.take_length] at this⟩)
        · have hk' : 20 < k := by omega
          have hl' : 20 < ns.length := by omega
          go_wp2
          all_goals
            go_ret
            exact fewP _ (fun h => by simp at h; omega)
/-- The world behind awake's two rows of whole numbers. -/
theorem rq_new2 (w : World) (x y : Int) (t : TypeId) : Rq 1 cI (w.alloc (.cells #[.int .i64 x, .int .i64 y] t)) (.slice (some ⟨w.heap.size, 0, none⟩) 2 2) [x, y] := by
  refine .inr ⟨w.heap.size, 0, 2, rfl, Nat.le_refl _, by simp, fun j z hj k u hu => ?_⟩
  rcases k with _ | k
  · simp at hu
    subst hu
    rcases j with _ | _ | j
    · simp at hj; subst hj; simp [go_sem]
    · simp at hj; subst hj; simp [go_sem]
    · simp at hj
  · simp at hu
theorem dotI_snoc (xs ys : List Int) (k : Nat) (x y : Int) (hx : xs[k]? = some x) (hy : ys[k]? = some y) : dotI (xs.take (k + 1)) (ys.take (k + 1)) = dotI (xs.take k) (ys.take k) + x * y := by
  have h1 := (List.getElem?_eq_some_iff.1 hx).1
  have h2 := (List.getElem?_eq_some_iff.1 hy).1
  unfold dotI
  rw [List.take_add_one, List.take_add_one, hx, hy, List.zipWith_append (by simp; omega)]
  simp
theorem dotI_take (xs ys : List Int) (k : Nat) (h : k = min xs.length ys.length) : dotI (xs.take k) (ys.take k) = dotI xs ys := by
  unfold dotI
  congr 1
  subst h
  rw [List.zipWith_eq_zipWith_take_min (l₁ := xs)]
theorem sum_few {ns : List Int} (h : Sml 1000 ns) (hl : ns.length ≤ 20) : sumF (ns.map wholeF) = itF ns.sum := by
  rw [wholes_it ns h (by omega)]
  exact sum_it ns h (by omega) (by omega)
set_option maxHeartbeats 1000000 in
theorem refDot5_any (va vb : Value) (xs ys : List Int) (w : World) (ha : Rq 1 cI w va xs) (hb : Rq 1 cI w vb ys) (hx : Sml 1000 xs) (hy : Sml 1000 ys) (hl : xs.length ≤ 20) (hm : ys.length ≤ 20) :
    Calls Try.prog 17 #[va, vb] w fun e w' => e = .returned (.int .i64 (dotI xs ys)) ∧ Bl w w' := by
  obtain ⟨p, cap, rfl, hc, _⟩ := ha.cut
  obtain ⟨q, dap, rfl, hd, _⟩ := hb.cut
  have CA : ∀ k x, xs[k]? = some x → ∃ b o, p = some ⟨b, o, none⟩ ∧ b < w.heap.size ∧ w.cell? ⟨b, o + k, none⟩ = some (.int .i64 x) := by
    intro k x hk
    rcases ha with ⟨_, _, _, h0, _⟩ | ⟨b, o, c, e, _, hlt, HX⟩
    · rw [h0] at hk; simp at hk
    · cases e; exact ⟨b, o, rfl, hlt, cellI HX hk (wr := w)⟩
  have CB : ∀ k x, ys[k]? = some x → ∃ b o, q = some ⟨b, o, none⟩ ∧ b < w.heap.size ∧ w.cell? ⟨b, o + k, none⟩ = some (.int .i64 x) := by
    intro k x hk
    rcases hb with ⟨_, _, _, h0, _⟩ | ⟨b, o, c, e, _, hlt, HX⟩
    · rw [h0] at hk; simp at hk
    · cases e; exact ⟨b, o, rfl, hlt, cellI HX hk (wr := w)⟩
  have HCA := hideP CA
  have HCB := hideP CB
  have HX := hideP hx
  have HY := hideP hy
  clear CA CB ha hb hx hy
  have fm : Try.prog.follows .mixedOrders = true := by kernel_rfl
  go_enter Try.func17, Try.ntmps17
  go_wp2_with fail
  go_loopw [5, 6] (fun n i wr => ∃ k : Nat, i = .int .i64 k ∧ k ≤ xs.length ∧ k ≤ ys.length ∧ n = .int .i64 (dotI (xs.take k) (ys.take k)) ∧ Bl w wr) (fun _ i _ => xs.length - (intOf i).toNat)
  case atStart => exact ⟨0, rfl, Nat.zero_le _, Nat.zero_le _, by simp [dotI], Bl.refl _⟩
  case round =>
    obtain ⟨k, rfl, hk, hk2, rfl, bl⟩ := hrel
    by_cases h1 : k < xs.length
    · by_cases h2 : k < ys.length
      · obtain ⟨x, hx⟩ : ∃ x, xs[k]? = some x := ⟨_, List.getElem?_eq_getElem h1⟩
        obtain ⟨y, hy⟩ : ∃ y, ys[k]? = some y := ⟨_, List.getElem?_eq_getElem h2⟩
        obtain ⟨b, o, rfl, hb, cx⟩ := HCA.out k x hx
        obtain ⟨b', o', rfl, hb', cy⟩ := HCB.out k y hy
        have cx' := (bl_cell (bl.drew) _ (o + k) hb).trans cx
        have cy' := (bl_cell (bl.drew) _ (o' + k) hb').trans cy
        have bx := HX.out x (List.mem_of_getElem? hx)
        have bY := HY.out y (List.mem_of_getElem? hy)
        have bd := dotI_bound (HX.out.take k) (HY.out.take k) (by omega) (by omega) (by simp; omega)
        have bm := mul_bound bx bY
        have HN := hideP (dotI_snoc xs ys k x y hx hy)
        generalize dotI (xs.take k) (ys.take k) = d at *
        generalize hm' : x * y = m at *
        have w1 : wrap64 m = m := by unfold wrap64; omega
        have w2 : wrap64 (d + m) = d + m := by unfold wrap64; omega
        clear cx cy
        go_wp2
        go_region
        go_wp2
        go_roundw
        case rel => exact ⟨k + 1, by simp, h1, h2, by rw [HN.out], bl.drew⟩
        case measure => simp [intOf]; omega
      · rw [dotI_take xs ys k (by omega)]
        go_wp2
        go_ret
        exact ⟨rfl, bl⟩
    · rw [dotI_take xs ys k (by omega)]
      go_wp2
      go_ret
      exact ⟨rfl, bl⟩
end Go.Proofs.Ytfbioinmgchdcaa
