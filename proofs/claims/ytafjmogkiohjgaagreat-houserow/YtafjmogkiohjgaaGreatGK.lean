/- For every slice of ints, HouseRow tells true: one row of 8 whole numbers at most, from -100 up to 100, folds to the root of its square, whose square encloses it (P8.1, P8.2). Conditions: none (every input). -/
import Derived.Test.YtafjmogkiohjgaaGreatGI
import Derived.Test.YtafjmogkiohjgaaGreatGH
import Derived.Test.YtafjmogkiohjgaaGreatGB
import Derived.Test.YtafjmogkiohjgaaGreatGJ
import Derived.ProofKit
import Derived.OpenShut
import Derived.Carry
/- HouseRow: one row of whole numbers folds to the root of its square, whose square is told and encloses it. Mathematics; and Whole of enclosed numbers as a call. -/
namespace Go.Proofs.YtafjmogkiohjgaaGreat
open Go.RowKit
set_option linter.unusedSimpArgs false
set_option linter.unusedVariables false

theorem encl_enq8 {a : En} {n d : Int} (h : Enq a n d) (hn : Wh n) (hd : 1 ≤ d ∧ d ≤ 1073741824) (hb : a.bad = false) : enclB a n d = true := by
  rcases h with rfl | ⟨hf, h1, h2⟩
  · cases hb
  · have r1 : rightB n = true := by unfold rightB; simp; have := hn.1; have := hn.2; omega
    have r2 : rightB d = true := by unfold rightB; simp; omega
    unfold enclB withinB
    rw [hf, r1, r2]
    simp [h1, h2, hd.1]
theorem fm_small {x y m : Int} (hx : 0 ≤ x) (hx2 : x ≤ 5000000000) (hy : 0 ≤ y) (hy2 : y ≤ 5000000000) (hm : MD m) : fmB x y m = true := by
  have h0 : 0 ≤ x * y := Int.mul_nonneg hx hy
  have h1 : x * y ≤ 5000000000 * 5000000000 := Int.mul_le_mul hx2 hy2 hy (by omega)
  have a1 := rnd_mono 0 (x * y) 16777216 m (by decide) h0
  have a2 := rnd_mono (x * y) (5000000000 * 5000000000) 16777216 m (by decide) h1
  have z : rnd 0 16777216 m = 0 := by rcases hm with rfl | rfl | rfl <;> decide
  have t : rnd (5000000000 * 5000000000) 16777216 m ≤ 1490116119385 := by rcases hm with rfl | rfl | rfl <;> decide
  exact (fm_told (frB_eq ⟨by omega, by omega⟩) (frB_eq ⟨by omega, by omega⟩) hm (frB_eq ⟨by omega, by omega⟩)).1
theorem mul_small {v l h : Int} (h0 : 0 ≤ l) (h1 : l ≤ v) (h2 : v ≤ h) (h3 : h ≤ 5000000000) : (mulE ⟨v, l, h, false⟩ ⟨v, l, h, false⟩).bad = false := by
  have fa : fineB ⟨v, l, h, false⟩ = true := fineB_iff.2 ⟨rfl, h1, h2, show frB l = true from frB_eq ⟨by omega, by omega⟩, show frB h = true from frB_eq ⟨by omega, by omega⟩⟩
  have m0 : MD 0 := .inl rfl
  have m1 : MD 1 := .inr (.inl rfl)
  have m2 : MD 2 := .inr (.inr rfl)
  have ok : okE fmB ⟨v, l, h, false⟩ ⟨v, l, h, false⟩ (prs4 ⟨v, l, h, false⟩ ⟨v, l, h, false⟩) = true := okE_iff.2 ⟨show fmB v v 0 = true from fm_small (by omega) (by omega) (by omega) (by omega) m0, fa, fa, by
    unfold okF prs4
    simp only [List.all_cons, List.all_nil, Bool.and_true]
    rw [fm_small h0 (by omega) h0 (by omega) m1, fm_small h0 (by omega) h0 (by omega) m2, fm_small h0 (by omega) (show 0 ≤ h by omega) h3 m1, fm_small h0 (by omega) (show 0 ≤ h by omega) h3 m2, fm_small (show 0 ≤ h by omega) h3 h0 (by omega) m1, fm_small (show 0 ≤ h by omega) h3 h0 (by omega) m2, fm_small (show 0 ≤ h by omega) h3 (show 0 ≤ h by omega) h3 m1, fm_small (show 0 ≤ h by omega) h3 (show 0 ≤ h by omega) h3 m2]
    rfl⟩
  unfold mulE
  rw [told_ok ok]
theorem sq_sum : ∀ (xs : List Int), Sml 100 xs → 0 ≤ dotI xs xs ∧ dotI xs xs ≤ 10000 * xs.length
  | [], _ => ⟨by decide, by decide⟩
  | x :: xs, h => by
    have ih := sq_sum xs h.tail
    have hb := mul_bound h.head h.head
    have h0 : 0 ≤ x * x := by
      rcases Int.le_total 0 x with hx | hx
      · exact Int.mul_nonneg hx hx
      · exact Int.mul_nonneg_of_nonpos_of_nonpos hx hx
    have e : dotI (x :: xs) (x :: xs) = x * x + dotI xs xs := by unfold dotI; rw [List.zipWith_cons_cons, List.sum_cons]
    rw [e, List.length_cons]
    constructor
    · omega
    · have : ((xs.length + 1 : Nat) : Int) = (xs.length : Int) + 1 := by omega
      rw [this]
      omega
theorem dotI_snoc8 : ∀ (xs : List Int) (x : Int), dotI (xs ++ [x]) (xs ++ [x]) = dotI xs xs + x * x
  | [], x => by show x * x + 0 = 0 + x * x; omega
  | y :: ys, x => by
    have ih := dotI_snoc8 ys x
    have e : ∀ (a : Int) (l : List Int), dotI (a :: l) (a :: l) = a * a + dotI l l := fun a l => by unfold dotI; rw [List.zipWith_cons_cons, List.sum_cons]
    rw [List.cons_append, e, e, ih]
    omega
/-- What one row folds to. -/
theorem row8 {m : Nat} {f : Nat → Nat → En} {xs : List Int} (ht : tailH m 0 (f 0) = xs.map itN) (hs : Sml 100 xs) (hl : xs.length ≤ 8) :
    ∃ x, foldN 1 m f 0 0 = x ∧ x.bad = false ∧ lowN x = false ∧ enclB (mulE x x) (dotI xs xs) 1 = true := by
  obtain ⟨D, hD⟩ : ∃ D, D = dotI xs xs := ⟨_, rfl⟩
  obtain ⟨d0, d1⟩ := sq_sum xs hs
  rw [← hD] at d0 d1 ⊢
  have d2 : D ≤ 80000 := by omega
  have hdot : dotN (tailH m 0 (f 0)) (tailH m 0 (f 0)) = itN D := by
    rw [ht, dotN_it (fun x hx => by have := hs x hx; omega) (fun x hx => by have := hs x hx; omega) (by omega), hD]
  obtain ⟨p, hp⟩ : ∃ p, p = (if lowN (f 0 0) = true then rootE (itN D) else negE (rootE (itN D))) := ⟨_, rfl⟩
  have hp1 : foldL kdN lowN m f 1 0 0 = p := by
    show foldStep kdN m 0 (lowN (f 0 0)) f 0 0 = _
    unfold foldStep
    rw [if_pos rfl, if_pos rfl, hp]
    unfold pH
    show (if lowN (f 0 0) = true then rootE (dotN (tailH m 0 (f 0)) (tailH m 0 (f 0))) else negE (rootE (dotN (tailH m 0 (f 0)) (tailH m 0 (f 0))))) = _
    rw [hdot]
  have hS : foldN 1 m f 0 0 = if lowN p = true then negE p else p := by
    unfold foldN signsH
    by_cases hlo : lowN p = true
    · rw [if_pos ⟨Nat.le_refl _, by show lowN (foldL kdN lowN m f 1 0 0) = true; rw [hp1]; exact hlo⟩, if_pos hlo, hp1]
      rfl
    · rw [if_neg (fun h => hlo (by have h2 : lowN (foldL kdN lowN m f 1 0 0) = true := h.2; rw [hp1] at h2; exact h2)), if_neg hlo, hp1]
  by_cases hz : 1 ≤ D
  · obtain ⟨v, l, h, e1, a1, a2, a3, a4, e2⟩ := row_signs hz d2 (lowN (f 0 0))
    rw [← hp] at e2
    rw [e2] at hS
    refine ⟨_, hS, by rw [e1], ?_, encl_enq8 (row_square hz d2 (by rw [e1]; exact mul_small (by omega) a2 a3 a4)) ⟨by omega, by omega⟩ ⟨by omega, by omega⟩ (by rw [e1]; exact mul_small (by omega) a2 a3 a4)⟩
    rw [e1]
    unfold lowN
    refine decide_eq_false ?_
    show ¬ cmpI v 0 < 0
    unfold cmpI
    split <;> omega
  · have : D = 0 := by omega
    subst this
    have r0 : rootE (itN 0) = itN 0 := rootN_it (s := 0) (by omega) (by omega)
    have n0 : negE (itN 0) = itN 0 := negN_it ⟨by omega, by omega⟩
    have hp0 : p = itN 0 := by rw [hp, r0, n0]; split <;> rfl
    have l0 : lowN (itN 0) = false := by rw [lowN_it]; rfl
    rw [hp0, l0, if_neg nofun] at hS
    refine ⟨_, hS, rfl, l0, ?_⟩
    rw [mulN_it ⟨by omega, by omega⟩ ⟨by omega, by omega⟩ ⟨by omega, by omega⟩]
    exact encl_it ⟨by omega, by omega⟩
theorem whole8N_call (R C : Nat) (p : Option Addr) (n cap : Nat) (ns : List Int) (w : World) (hr : Rq 1 cI w (.slice p n cap) ns) (hd : Dim R C) (hn : n = R * C) (hl : ns.length = n) :
    Calls Tryz.prog 14 #[.int .i64 R, .int .i64 C, .slice p n cap] w fun e w' => ∃ p' cap', e = .returned (.tuple #[mV R C p' n cap', .bool true]) ∧ Mx 4 cellsN w' R C p' n cap' (fun i k => wholeN (ofL C ns i k)) ∧ Bl w w' := by
  refine (mWholeN R C p n cap ns w hr (fitB_dim hd hn) hl).mono ?_
  rintro e w' ⟨p', cap', rfl, hR, hb⟩
  refine ⟨p', cap', rfl, ⟨hd, hn, ?_⟩, hb⟩
  have e := ofL_mk (R := R) (M := C) (ns := ns) (by rw [hl, hn])
  rw [e, mk_map] at hR
  exact hR.q
end Go.Proofs.YtafjmogkiohjgaaGreat

/- The walk of HouseRow. Written by genHr.py. -/
namespace Go.Proofs.YtafjmogkiohjgaaGreat
open Go.RowKit
set_option linter.unusedSimpArgs false
set_option linter.unusedVariables false

set_option maxRecDepth 100000 in
set_option maxHeartbeats 4000000 in
theorem walk_HouseRow (va : Value) (xa : List Int) (w : World) (ha : Rq 1 cI w va xa) :
    Calls Tryz.prog 6 #[va] w fun e w' => e = .returned (.bool true) ∧ Bl w w' := by
  have AW := hideP awake8_any
  have FW := hideP (few6_any va xa w ha)
  have HA := hideP ha
  rcases ha with ⟨p, cap, rfl, rfl, hpn⟩ | ⟨b, o, cap, rfl, hc, hb, hx⟩
  · go_enter Tryz.func6, Tryz.ntmps6
    go_wp2_with fail
    refine (AW.out _).mono ?_
    rintro e w99 ⟨rfl, h99⟩
    go_wp2
    go_ret
    exact ⟨rfl, (Bl.refl _).trans h99⟩
  · obtain ⟨la, hla⟩ : ∃ la, la = xa.length := ⟨_, rfl⟩
    rw [← hla] at hc HA FW ⊢
    have HX0 := hideP hx
    have HLA := hideP hla
    clear hx hla
    by_cases hl1 : la < 1
    · go_enter Tryz.func6, Tryz.ntmps6
      go_wp2_with fail
      refine (AW.out _).mono ?_
      rintro e w99 ⟨rfl, h99⟩
      go_wp2
      go_ret
      exact ⟨rfl, (Bl.refl _).trans h99⟩
    by_cases hl8 : 8 < la
    · go_enter Tryz.func6, Tryz.ntmps6
      go_wp2_with fail
      refine (AW.out _).mono ?_
      rintro e w99 ⟨rfl, h99⟩
      go_wp2
      go_ret
      exact ⟨rfl, (Bl.refl _).trans h99⟩
    go_enter Tryz.func6, Tryz.ntmps6
    go_wp2_with fail
    refine FW.out.mono ?_
    rintro e w1 ⟨b1, rfl, hb1, rfl⟩
    clear FW
    cases b1 with
    | false =>
      go_wp2_with fail
      refine (AW.out _).mono ?_
      rintro e w99 ⟨rfl, h99⟩
      go_wp2
      go_ret
      exact ⟨rfl, (Bl.refl _).trans h99⟩
    | true =>
      have HS := hideP (hb1 rfl).2
      clear hb1
      go_wp2_with fail
      go_loopw [28, 3] (fun i s wr => ∃ j : Nat, i = .int .i64 j ∧ j ≤ la ∧ s = .int .i64 (dotI (xa.take j) (xa.take j)) ∧ wr = w1) (fun i _ _ => la - (intOf i).toNat)
      case atStart => exact ⟨0, rfl, Nat.zero_le _, rfl, rfl⟩
      case round =>
        obtain ⟨j, rfl, hj, rfl, rfl⟩ := hrel
        by_cases hlt : j < la
        · obtain ⟨x, hx⟩ : ∃ x, xa[j]? = some x := ⟨_, List.getElem?_eq_getElem (by rw [← HLA.out]; exact hlt)⟩
          have cx := cellI HX0.out hx (wr := wr)
          have HT := hideP (show dotI (xa.take (j + 1)) (xa.take (j + 1)) = dotI (xa.take j) (xa.take j) + x * x by rw [List.take_add_one, hx]; exact dotI_snoc8 _ _)
          obtain ⟨q0, q1⟩ := sq_sum (xa.take j) (HS.out.take j)
          have q2 : ((xa.take j).length : Int) ≤ 8 := by rw [List.length_take]; omega
          have hb := mul_bound (HS.out x (List.mem_of_getElem? hx)) (HS.out x (List.mem_of_getElem? hx))
          obtain ⟨s, hs⟩ : ∃ s, s = dotI (xa.take j) (xa.take j) := ⟨_, rfl⟩
          rw [← hs] at HT q0 q1 ⊢
          obtain ⟨y, hy⟩ : ∃ y, y = x * x := ⟨_, rfl⟩
          rw [← hy] at hb HT
          have hyy : x * x = y := hy.symm
          have q3 : s ≤ 80000 := by omega
          have wy : wrap64 y = y := by unfold wrap64; omega
          have wsy : wrap64 (s + y) = s + y := by unfold wrap64; omega
          clear hs hx hy q1 q2
          go_wp2
          go_roundw
          case rel => exact ⟨j + 1, by simp, hlt, by rw [HT.out], trivial⟩
          case measure => simp [intOf]; omega
        · have hk' : j = la := by omega
          subst hk'
          have HD := hideP (show dotI (xa.take j) (xa.take j) = dotI xa xa by rw [HLA.out, List.take_length])
          rw [HD.out]
          obtain ⟨d, hd⟩ : ∃ d, d = dotI xa xa := ⟨_, rfl⟩
          rw [← hd]
          have WY := hideP (whole8N_call 1 j (some ⟨b, o, none⟩) j cap xa wr HA.out ⟨by omega, by omega, by omega, by omega⟩ (by omega) HLA.out.symm)
          have HDD := hideP hd
          clear hd
          obtain ⟨la, rfl⟩ : ∃ la, la = j := ⟨_, rfl⟩
          go_wp2_with fail
          refine WY.out.mono ?_
          rintro e w1 ⟨p1, c1, rfl, hx1, h1⟩
          obtain ⟨f, hf⟩ : ∃ f : Nat → Nat → En, f = fun i k => wholeN (ofL la xa i k) := ⟨_, rfl⟩
          rw [← hf] at hx1
          have HX := hideP hx1
          obtain ⟨⟨xv, xl, xh, xb⟩, hxv, hxb, hxl, hxe⟩ := row8 (m := la) (f := f) (xs := xa) (by
            rw [hf, ← wholesN_it xa HS.out (by omega)]
            refine (tail_ext (by rw [List.length_map, HLA.out]; omega) fun c hc => ?_).symm
            have hcl : c < xa.length := by rw [← HLA.out]; omega
            rw [List.getElem?_map, List.getElem?_eq_getElem hcl]
            show some (wholeN xa[c]) = some (wholeN (xa.getD (0 * la + (0 + c)) 0))
            rw [Nat.zero_mul, Nat.zero_add, Nat.zero_add, List.getD_eq_getElem?_getD, List.getElem?_eq_getElem hcl]
            rfl) HS.out (by rw [← HLA.out]; omega)
          have hxb' : xb = false := hxb
          subst hxb'
          obtain ⟨W1, hW1⟩ : ∃ W1, W1 = w1.alloc (.cells #[.int .i64 1, .int .i64 la, .slice p1 la c1] 24) := ⟨_, rfl⟩
          have b1 : Bl w1 W1 := by rw [hW1]; exact (Bl.refl _).alloc _
          have HW1 := hideP hW1
          have FO := hideP (hFoldAllN 1 la p1 la c1 f W1 (HX.out.later b1) (by omega))
          have HXV := hideP hxv
          have HXE := hideP hxe
          have HXL := hideP hxl
          clear hx1 hf hW1 WY hxv hxe hxl
          go_wp2_with fail
          rw [← HW1.out]
          refine FO.out.mono ?_
          rintro e w2 ⟨p2, c2, rfl, hx2, h2⟩
          rw [show (1 * 1 : Nat) = 1 from rfl] at hx2 ⊢
          obtain ⟨b2, o2, rfl, hc2, hb2, CS⟩ := hx2.cells
          have CX := hideP (show ∀ k u, (cellsN (⟨xv, xl, xh, false⟩ : En))[k]? = some u → w2.cell? ⟨b2, o2 + k, none⟩ = some u from fun k u hu => by
            have := CS 0 0 (by omega) (by omega) k u (by rw [HXV.out]; exact hu)
            simpa using this)
          have B2 : Bl wr w2 := h1.trans (b1.trans h2)
          clear hx2 CS FO
          have x0 : w2.cell? ⟨b2, o2, none⟩ = some (.int .i64 xv) := CX.out 0 _ rfl
          have x1 : w2.cell? ⟨b2, o2 + 1, none⟩ = some (.int .i64 xl) := CX.out 1 _ rfl
          have x2 : w2.cell? ⟨b2, o2 + 2, none⟩ = some (.int .i64 xh) := CX.out 2 _ rfl
          have x3 : w2.cell? ⟨b2, o2 + 3, none⟩ = some (.bool false) := CX.out 3 _ rfl
          obtain ⟨y, hy⟩ : ∃ y, y = mulE (⟨xv, xl, xh, false⟩ : En) (⟨xv, xl, xh, false⟩ : En) := ⟨_, rfl⟩
          have MU := hideP (fun u => by have := emul_any (⟨xv, xl, xh, false⟩ : En) (⟨xv, xl, xh, false⟩ : En) u; rw [← hy] at this; exact this)
          have EN := hideP (fun u => by have := encl_any y d 1 u; rw [hy, HDD.out, HXE.out, ← HDD.out, ← hy] at this; exact this)
          have SG := hideP (fun u => signE_any (⟨xv, xl, xh, false⟩ : En) u)
          have sg : ¬ signE (⟨xv, xl, xh, false⟩ : En) < 0 := of_decide_eq_false HXL.out
          obtain ⟨sx, hsx⟩ : ∃ sx, sx = signE (⟨xv, xl, xh, false⟩ : En) := ⟨_, rfl⟩
          rw [← hsx] at SG sg
          obtain ⟨W2, hW2⟩ : ∃ W2, W2 = (w2.alloc (.cells #[.int .i64 1, .int .i64 1, .slice (some ⟨b2, o2, none⟩) 1 c2] 24)).alloc (.cells #[.int .i64 xv, .int .i64 xl, .int .i64 xh, .bool false] 28) := ⟨_, rfl⟩
          have b22 : Bl w2 W2 := by rw [hW2]; exact ((Bl.refl _).alloc _).alloc _
          have kx : Box W2 (w2.heap.size + 1) (⟨xv, xl, xh, false⟩ : En) := by rw [hW2]; have := Box.new (w2.alloc (.cells #[.int .i64 1, .int .i64 1, .slice (some ⟨b2, o2, none⟩) 1 c2] 24)) (⟨xv, xl, xh, false⟩ : En) 28; rw [World.size_alloc] at this; exact this
          have HW2 := hideP hW2
          clear hW2 hy hsx
          go_wp2_with fail
          rw [← HW2.out]
          refine (MU.out _).mono ?_
          rintro e w3 ⟨rfl, h3⟩
          have ky := Box.new w3 y 28
          obtain ⟨W3, hW3⟩ : ∃ W3, W3 = w3.alloc (.cells #[.int .i64 y.v, .int .i64 y.l, .int .i64 y.h, .bool y.bad] 28) := ⟨_, rfl⟩
          have b33 : Bl w3 W3 := by rw [hW3]; exact (Bl.refl _).alloc _
          rw [← hW3] at ky
          have kx3 := (kx.later h3)
          have HW3 := hideP hW3
          have B3 : Bl wr W3 := B2.trans (b22.trans (h3.trans b33))
          obtain ⟨c0, c1', c2', c3, f0, f1, f2, f3, lt⟩ := id kx3
          clear hW3 x0 x1 x2 x3
          go_wp2_with fail
          rw [← HW3.out]
          refine (SG.out _).mono ?_
          rintro e w4 ⟨rfl, h4⟩
          clear c0 c1' c2' c3 f0 f1 f2 f3
          obtain ⟨c0, c1', c2', c3, f0, f1, f2, f3, lt4⟩ := ky.later h4
          go_wp2_with fail
          refine (EN.out _).mono ?_
          rintro e w5 ⟨rfl, h5⟩
          go_wp2_with fail
          refine (AW.out _).mono ?_
          rintro e w99 ⟨rfl, h99⟩
          go_wp2
          go_ret
          exact ⟨rfl, (B3.trans (h4.trans h5)).trans h99⟩
end Go.Proofs.YtafjmogkiohjgaaGreat

/- A slice of whole numbers as an argument: opened. -/
namespace Go.Proofs.YtafjmogkiohjgaaGreat
open Go.ChangeShapes Go.WideShapes Go.ChangeAt Go.RowKit
set_option linter.unusedVariables false

theorem Tryz.cellsInt : Tryz.prog.cellsOf 3 = 1 := by kernel_rfl
theorem cell_block_lt {W : World} {b o : Nat} {v : Value} (h : W.cell? ⟨b, o, none⟩ = some v) : b < W.heap.size := by
  rcases Nat.lt_or_ge b W.heap.size with h' | h'
  · exact h'
  · have : W.heap[b]? = none := Array.getElem?_eq_none h'
    simp [World.cell?, this] at h
set_option maxRecDepth 1000000 in
theorem open_row {H : Type} {enc : TypeId × Value → H} {W : World} {b0 : Nat} {v : Value} {d : DataW H} {p : List MemPlace}
    (hv : Value.okWide Tryz.prog W .any b0 36 v) (h : DataW.Trod enc Tryz.prog W 0 (fun _ => true) true 36 v d p) : ∃ ns : List Int, Rq 1 cI W v ns ∧ ∀ n ∈ ns, (Lit.int .i64 n).wf = true := by
  obtain ⟨a0, len, cap, rfl⟩ := okWide_slice Tryz.underlying36 hv
  obtain ⟨fuel, hf⟩ := h
  rcases open_ints Tryz.underlying36 Tryz.underlying3 Tryz.cellsInt hf with ⟨hcs, hx⟩ | ⟨a, len', cap', zs, hcs, _, hl, hm, hz, hx, hcell, hwz⟩
  · simp [Value.cells] at hcs
    obtain ⟨rfl, rfl, rfl⟩ := hcs
    exact ⟨[], .inl ⟨none, 0, rfl, rfl, fun _ => rfl⟩, fun n hn => by simp at hn⟩
  · simp [Value.cells] at hcs
    obtain ⟨rfl, rfl, rfl⟩ := hcs
    simp only [if_true] at hz
    refine ⟨zs.take len, ?_, fun n hn => hwz n (List.mem_of_mem_take hn)⟩
    by_cases h0 : len = 0
    · subst h0
      exact .inl ⟨some a, cap, rfl, by simp, nofun⟩
    · have c0 := hcell 0 (by omega)
      obtain ⟨b, off, rfl, hc⟩ := ints_at hcell (by omega)
      have hb : b < W.heap.size := by
        have := hc 0 (by omega)
        exact cell_block_lt this
      have hll : (zs.take len).length = len := by simp; omega
      refine .inr ⟨b, off, cap, by rw [hll], by omega, hb, fun j x hj k u hu => ?_⟩
      rcases k with _ | k
      · simp at hu
        subst hu
        have hj2 := (List.getElem?_eq_some_iff.1 hj).1
        have := hc j (by omega)
        rw [List.getElem?_take] at hj
        split at hj
        · have e : zs.getD j 0 = x := by simp [List.getD, hj]
          rw [e] at this
          simpa using this
        · cases hj
      · simp at hu
end Go.Proofs.YtafjmogkiohjgaaGreat

/- For every slice of ints, HouseRow tells true: one row of 8 whole numbers at most, from -100 up to 100, folds to the root of its square, whose square encloses it (P8.1, P8.2). Conditions: none (every input). -/
namespace Go.Proofs.YtafjmogkiohjgaaGreat
open Go.ChangeShapes Go.WideShapes Go.ChangeAt Go.RowKit
set_option linter.unusedVariables false

theorem own_HouseRow : ownKnob Tryz.prog.godebug = none := by kernel_rfl
theorem laid_HouseRow : laidOutB Tryz.prog = true := by kernel_rfl
set_option maxRecDepth 100000 in
theorem lifted_HouseRow (os : Os) (started : os.Started) (H : Type) (enc : TypeId × Value → H) :
    ReturnsInHanded {} Tryz.checked os 6 .any (Rows.houseRowSpec.pre6 enc Tryz.prog Tryz.f6 Rows.houseRowRow.domain false) (Rows.houseRowSpec.post enc Tryz.prog Tryz.f6 false true false false) := by
  refine returnsInHanded_of_change (C := Tryz.checked) own_HouseRow started (by kernel_rfl) Tryz.func6
    (ChangeSpec.witness6 (enc := enc) (C := Tryz.checked) false ⟨#[], #[.slice none 0 0], []⟩ 8 (by kernel_rfl) (by kernel_rfl) (by kernel_rfl) (by kernel_rfl)) ?_
  intro W base args ds gs before hval0 hW hcnd _
  have hval : ∀ (j : Nat) t v, Tryz.f6.params[j]? = some t → args[j]? = some v → Value.okWide Tryz.prog W .any base t v := hval0
  have hW' := hW
  obtain ⟨p, q, hA0, hV, rfl, hfz, hnd⟩ := hW
  have hA : DataW.TrodAll enc Tryz.prog W 0 (fun _ => true) true Tryz.f6.params.toList args.toList ds p := hA0
  rw [Tryz.params6] at hA hval
  obtain ⟨v0, vs0, d0, ds0, p0, q0, hargs, rfl, rfl, h0, r0⟩ := trodAll_cons hA
  obtain ⟨rfl, rfl, rfl⟩ := trodAll_nil r0
  obtain rfl : args = #[v0] := by cases args; simp_all
  obtain ⟨rfl, rfl⟩ := trodVars_none hV
  have hltA := fun x hx => hW'.lt x hx
  obtain ⟨a0, R0, w0⟩ := open_row (hval 0 36 v0 rfl rfl) h0
  clear hA0 hval0
  refine (walk_HouseRow v0 a0 W R0).mono fun e W' ⟨he, bel⟩ => ?_
  subst he
  exact ⟨_, rfl, _, _, _, [], _, [], hW', trodAll_mk1 (shut_bool Tryz.underlying4 _), (trodAll_cons_mk (Below.trod laid_HouseRow (by kernel_rfl) (of_decide_eq_true (by kernel_rfl)) h0 bel (fun x hx => by have := hltA x (by simp [hx]); simpa using this)) trodAll_mk0), rfl, Below.frame bel _, fun h => by cases h⟩

theorem proved_HouseRow : Rows.HouseRowSaid :=
  OpenClaim.holds_of_wide 6 Tryz.f6 rfl rfl rfl rfl rfl rfl rfl ⟨rfl, rfl, rfl, rfl, rfl⟩ rfl rfl rfl rfl rfl (by kernel_rfl) Tryz.func6 (by kernel_rfl)
    (of_decide_eq_true (by kernel_rfl)) (by unfold Func.isWrapper; first | (rw [if_pos (by decide +kernel)]; kernel_rfl) | (rw [if_neg (by decide +kernel)]; exact ⟨rfl, rfl⟩))
    (fun os started H enc _ => lifted_HouseRow os started H enc)
#print axioms proved_HouseRow
end Go.Proofs.YtafjmogkiohjgaaGreat
