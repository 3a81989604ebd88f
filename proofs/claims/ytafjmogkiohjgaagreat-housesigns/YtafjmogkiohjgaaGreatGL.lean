/- For every slice of enclosed numbers and every int, HouseSigns tells true: no diagonal of a triangle whose signs are set is below 0, and each of its numbers is what the document's words make of it (P8.1). Conditions: none (every input). -/
import Derived.Test.YtafjmogkiohjgaaGreatGD
import Derived.ProofKit
import Derived.OpenShut
import Derived.Lib.SmallJoins
import Derived.Test.YtafjmogkiohjgaaGreatGI
import Derived.Test.YtafjmogkiohjgaaGreatFr3
import Derived.Test.YtafjmogkiohjgaaGreatGJ
import Derived.Test.YtafjmogkiohjgaaGreatGB
import Derived.Test.YtafjmogkiohjgaaGreatGF
import Derived.Deep.Slices
import Derived.Carry
/- An enclosed number as an argument: opened, and shut. -/
namespace Go.Proofs.YtafjmogkiohjgaaGreat
open Go.ChangeShapes Go.WideShapes Go.ChangeAt Go.RowKit Go.Joins
set_option linter.unusedVariables false

theorem cellsNum : Tryz.prog.cellsOf 28 = 4 := by kernel_rfl
/-- As the statement's data have it. -/
abbrev numD {H : Type} (a : En) : DataW H := .agg [.lit (.int .i64 a.v), .lit (.int .i64 a.l), .lit (.int .i64 a.h), .lit (.bool a.bad)]
/-- Its numbers are of 64 bits. -/
structure NumW (a : En) : Prop where
  v : (Lit.int .i64 a.v).wf = true
  l : (Lit.int .i64 a.l).wf = true
  h : (Lit.int .i64 a.h).wf = true
set_option maxRecDepth 1000000 in
theorem open_num {H : Type} {enc : TypeId × Value → H} {W : World} {base b0 : Nat} {spare : Nat → Bool} {held : Bool} {v : Value} {d : DataW H} {p : List MemPlace}
    (hv : Value.okWide Tryz.prog W .any b0 28 v) (h : DataW.Trod enc Tryz.prog W base spare held 28 v d p) : ∃ a : En, v = enV a ∧ d = numD a ∧ p = [] ∧ NumW a := by
  obtain ⟨c0, c1, c2, c3, y0, y1, y2, y3, m, rfl, rfl, rfl, hy0, hy1, hy2, hy3⟩ := open_agg4 Tryz.underlying28 (by kernel_rfl) cellsNum hv h
  obtain ⟨x, e0, rfl, wx⟩ := DataW.trod_int Tryz.underlying3 hy0
  obtain ⟨y, e1, rfl, wy⟩ := DataW.trod_int Tryz.underlying3 hy1
  obtain ⟨z, e2, rfl, wz⟩ := DataW.trod_int Tryz.underlying3 hy2
  obtain ⟨b, e3, rfl⟩ := DataW.trod_bool Tryz.underlying4 hy3
  simp at e0 e1 e2 e3
  subst e0 e1 e2 e3
  exact ⟨⟨x, y, z, b⟩, rfl, rfl, rfl, wx, wy, wz⟩
set_option maxRecDepth 1000000 in
theorem shut_num {H : Type} {enc : TypeId × Value → H} {W : World} {base : Nat} {spare : Nat → Bool} {held : Bool} {a : En} (w : NumW a) : DataW.Trod enc Tryz.prog W base spare held 28 (enV a) (numD a) [] :=
  shut_agg4 (y0 := (.lit (.int .i64 a.v), [])) (y1 := (.lit (.int .i64 a.l), [])) (y2 := (.lit (.int .i64 a.h), [])) (y3 := (.lit (.bool a.bad), [])) Tryz.underlying28 (by kernel_rfl) cellsNum
    ⟨1, by simp [DataW.trod, Tryz.underlying3, w.v]⟩ ⟨1, by simp [DataW.trod, Tryz.underlying3, w.l]⟩ ⟨1, by simp [DataW.trod, Tryz.underlying3, w.h]⟩ ⟨1, by simp [DataW.trod, Tryz.underlying4]⟩
end Go.Proofs.YtafjmogkiohjgaaGreat

/- HouseSigns: mathematics; two enclosed numbers that are the same, compared. -/
namespace Go.Proofs.YtafjmogkiohjgaaGreat
open Go.RowKit
set_option linter.unusedSimpArgs false
set_option linter.unusedVariables false

theorem Tryz.nnFields : Tryz.prog.underlying 28 = some (.struct (Tryz.prog.fieldsOf 28)) := by kernel_rfl
theorem Tryz.nnHeld : Tryz.prog.stoodInHeld 28 = false := by kernel_rfl
theorem Tryz.nnGuard : Tryz.prog.eqGuardType Tryz.prog.depth 28 = false := by kernel_rfl
theorem Tryz.nnList : (Tryz.prog.fieldsOf 28).toList.map (fun f => (f.name, f.type, f.offset)) = [("V", 3, 0), ("Low", 3, 1), ("High", 3, 2), ("Bad", 4, 3)] := by kernel_rfl
theorem neq_nn (a : En) (w : World) : (binOp .neq 28 (enV a) (enV a)).run Tryz.prog w = .ok (.bool false) w := by
  rw [run_neq_struct, run_equalIn_agg _ _ _ _ _ Tryz.nnFields Tryz.nnHeld]
  rw [eqFields_map 9999 #[.int .i64 a.v, .int .i64 a.l, .int .i64 a.h, .bool a.bad] #[.int .i64 a.v, .int .i64 a.l, .int .i64 a.h, .bool a.bad] _ [{ name := "V", type := 3, offset := 0, embedded := false, tag := "", pkgPath := "", byteOffset := 0 }, { name := "Low", type := 3, offset := 1, embedded := false, tag := "", pkgPath := "", byteOffset := 0 }, { name := "High", type := 3, offset := 2, embedded := false, tag := "", pkgPath := "", byteOffset := 0 }, { name := "Bad", type := 4, offset := 3, embedded := false, tag := "", pkgPath := "", byteOffset := 0 }] Tryz.nnList]
  simp [Op.eqFields, part, go_sem]
theorem neg_high8 {a : En} (h : lowN a = true) : lowN (negE a) = false := by
  obtain ⟨v, l, hh, b⟩ := a
  cases b with
  | true => cases h
  | false =>
    have hv : v < 0 := by
      have h1 : signE ⟨v, l, hh, false⟩ < 0 := of_decide_eq_true h
      have h2 : cmpI v 0 < 0 := h1
      unfold cmpI at h2
      split at h2
      · assumption
      · split at h2 <;> omega
    unfold negE subE
    cases hk : okE bS (ptE 0 true) ⟨v, l, hh, false⟩ (prsX (ptE 0 true) ⟨v, l, hh, false⟩) with
    | false => rw [told_bad hk]; rfl
    | true =>
      rw [told_ok hk]
      refine decide_eq_false ?_
      show ¬ cmpI (fsN 0 v) 0 < 0
      unfold fsN toN cmpI
      split <;> split <;> first | omega | (split <;> omega)
theorem signs_high8 (f : Nat → Nat → En) (k : Nat) : lowN (signsH kdN (fun j => lowN (f j j)) f k k) = false := by
  unfold signsH
  by_cases h : lowN (f k k) = true
  · rw [if_pos ⟨Nat.le_refl _, h⟩]
    exact neg_high8 h
  · rw [if_neg (fun x => h x.2)]
    simpa using h
end Go.Proofs.YtafjmogkiohjgaaGreat

/- The walk of HouseSigns. Written by genHg.py. -/
namespace Go.Proofs.YtafjmogkiohjgaaGreat
open Go.RowKit
set_option linter.unusedSimpArgs false
set_option linter.unusedVariables false

set_option maxRecDepth 100000 in
set_option maxHeartbeats 4000000 in
theorem walk_HouseSigns (va : Value) (xs : List En) (n : Int) (w : World) (ha : Rq 4 cellsN w va xs) :
    Calls Tryz.prog 5 #[va, .int .i64 n] w fun e w' => e = .returned (.bool true) ∧ Bl w w' := by
  have fm : Tryz.prog.follows .mixedOrders = true := by kernel_rfl
  have egA := enters_of Tryz.func22 (by kernel_rfl) rfl
  have AW := hideP awake8_any
  obtain ⟨pa, ca, rfl, _, _⟩ := ha.cut
  obtain ⟨la, hla⟩ : ∃ la, la = xs.length := ⟨_, rfl⟩
  rw [← hla] at ha ⊢
  have HLA := hideP hla
  cases hf : fitB n n la with
  | false =>
    have WN := hideP (mNewN_no n n pa la ca w hf)
    clear ha hla hf
    go_enter Tryz.func5, Tryz.ntmps5
    go_wp2_with fail
    refine WN.out.mono ?_
    rintro e w1 ⟨rfl, h1⟩
    have bw : Bl w (w1.alloc (.cells #[.int .i64 0, .int .i64 0, .slice none 0 0] 24)) := h1.alloc _
    go_wp2_with fail
    refine (AW.out _).mono ?_
    rintro e w99 ⟨rfl, h99⟩
    go_wp2
    go_ret
    exact ⟨rfl, bw.trans h99⟩
  | true =>
    obtain ⟨R, C, hr, hc, hd, hn⟩ := fitB_nat hf
    obtain rfl : C = R := by omega
    subst hr
    obtain ⟨R, rfl⟩ : ∃ R, R = C := ⟨_, rfl⟩
    obtain ⟨f, hfx⟩ : ∃ f : Nat → Nat → En, f = fun i k => xs.getD (i * R + k) zeroE := ⟨_, rfl⟩
    have hxs : xs = mk R R f := by rw [hfx]; exact mk_of zeroE xs (by rw [← hla, hn])
    have WY := hideP (mNewN R R pa la ca xs w ha hf hla.symm)
    rw [hxs] at WY
    have HNN := hideP hn
    have HDM := hideP hd
    have hr16 := hd.r2
    have hr1 := hd.r1
    have hRR : (R : Int) * (R : Int) = (la : Int) := by rw [hn, Int.natCast_mul]
    have hla256 : la ≤ 256 := by rw [hn]; exact Nat.mul_le_mul hr16 hr16
    clear ha hla hf hfx hxs hn hd hc
    go_enter Tryz.func5, Tryz.ntmps5
    go_wp2_with fail
    refine WY.out.mono ?_
    rintro e w1 ⟨p1, c1, rfl, ⟨hx1, _⟩, h1⟩
    have HX := hideP (show Mx 4 cellsN w1 R R p1 la c1 f from ⟨HDM.out, HNN.out, hx1.q⟩)
    have k1 := MBox.new w1 R R p1 la c1 24
    obtain ⟨W1, hW1⟩ : ∃ W1, W1 = w1.alloc (.cells #[.int .i64 R, .int .i64 R, .slice p1 la c1] 24) := ⟨_, rfl⟩
    have b1 : Bl w1 W1 := by rw [hW1]; exact (Bl.refl _).alloc _
    rw [← hW1] at k1
    have HW1 := hideP hW1
    have B1 : Bl w W1 := h1.trans b1
    clear hx1 hW1 WY
    by_cases h4 : 4 < R
    · go_wp2_with fail
      rw [← HW1.out]
      refine (AW.out _).mono ?_
      rintro e w99 ⟨rfl, h99⟩
      go_wp2
      go_ret
      exact ⟨rfl, B1.trans h99⟩
    · have FO := hideP (hSignsN R p1 la c1 f W1 (HX.out.later b1))
      go_wp2_with fail
      rw [← HW1.out]
      refine FO.out.mono ?_
      rintro e w2 ⟨p2, c2, rfl, ⟨hx2, _⟩, h2⟩
      have HS2 := hideP hx2
      have k2 := MBox.new w2 R R p2 la c2 24
      obtain ⟨W2, hW2⟩ : ∃ W2, W2 = w2.alloc (.cells #[.int .i64 R, .int .i64 R, .slice p2 la c2] 24) := ⟨_, rfl⟩
      have b2 : Bl w2 W2 := by rw [hW2]; exact (Bl.refl _).alloc _
      rw [← hW2] at k2
      have k12 := (k1.later h2).later b2
      have HW2 := hideP hW2
      have B2 : Bl w W2 := B1.trans (h2.trans b2)
      have DG := hideP (tDiagN R p2 la c2 (signsH kdN (fun j => lowN (f j j)) f) W2 (hx2.later b2))
      clear hx2 hW2 FO
      go_wp2_with fail
      rw [← HW2.out]
      refine DG.out.mono ?_
      rintro e w3 ⟨p3, c3, rfl, hr3, h3⟩
      obtain ⟨b3, o3, rfl, hb3, DC⟩ : ∃ b1 o1, p3 = some ⟨b1, o1, none⟩ ∧ b1 < w3.heap.size ∧ ∀ j, j < R → ∀ k u, (cellsN (signsH kdN (fun j => lowN (f j j)) f j j))[k]? = some u → w3.cell? ⟨b1, o1 + j * 4 + k, none⟩ = some u := by
        rcases hr3 with ⟨_, e0⟩ | ⟨b1, o1, c, e, _, hb, hx⟩
        · have := congrArg List.length e0; simp at this; omega
        · simp only [Value.slice.injEq] at e
          obtain ⟨rfl, _, _⟩ := e
          exact ⟨b1, o1, rfl, hb, fun j hj k u hu => hx j (signsH kdN (fun j => lowN (f j j)) f j j) (by simp [hj]) k u hu⟩
      have HDC := hideP DC
      have B3 : Bl w w3 := B2.trans h3
      clear hr3 DC DG
      go_wp2_with fail
      go_loopw [47] (fun v wr => ∃ j : Nat, v = .int .i64 j ∧ j ≤ R ∧ Bl w3 wr) (fun v _ => R - (intOf v).toNat)
      case atStart => exact ⟨0, rfl, Nat.zero_le _, Bl.refl _⟩
      case round =>
        obtain ⟨j, rfl, hj, bj⟩ := hrel
        by_cases hlt : j < R
        · obtain ⟨x, hx⟩ : ∃ x, x = signsH kdN (fun j => lowN (f j j)) f j j := ⟨_, rfl⟩
          have DX := hideP (show ∀ k u, (cellsN x)[k]? = some u → wr.cell? ⟨b3, o3 + j * 4 + k, none⟩ = some u from fun k u hu => (bl_cell bj _ _ hb3).trans (HDC.out j hlt k u (by rw [← hx]; exact hu)))
          have x0 : wr.cell? ⟨b3, o3 + j * 4, none⟩ = some (.int .i64 x.v) := DX.out 0 _ rfl
          have x1 : wr.cell? ⟨b3, o3 + j * 4 + 1, none⟩ = some (.int .i64 x.l) := DX.out 1 _ rfl
          have x2 : wr.cell? ⟨b3, o3 + j * 4 + 2, none⟩ = some (.int .i64 x.h) := DX.out 2 _ rfl
          have x3 : wr.cell? ⟨b3, o3 + j * 4 + 3, none⟩ = some (.bool x.bad) := DX.out 3 _ rfl
          have hb3r : b3 < wr.heap.size := Nat.lt_of_lt_of_le hb3 bj.size
          have sg : ¬ signE x < 0 := of_decide_eq_false (by rw [hx]; exact signs_high8 f j)
          have SGC := hideP (fun u => signE_any x u)
          generalize signE x = sx at *
          obtain ⟨W4, hW4⟩ : ∃ W4, W4 = wr.alloc (.cells #[.int .i64 x.v, .int .i64 x.l, .int .i64 x.h, .bool x.bad] 28) := ⟨_, rfl⟩
          have b4 : Bl wr W4 := by rw [hW4]; exact (Bl.refl _).alloc _
          have HW4 := hideP hW4
          clear hW4 hx
          go_wp2_with fail
          rw [← HW4.out]
          refine (SGC.out _).mono ?_
          rintro e w5 ⟨rfl, h5⟩
          have b35 := bj.trans (b4.trans h5)
          clear x0 x1 x2 x3
          go_wp2
          go_roundw
          case rel => exact ⟨j + 1, by simp, hlt, b35⟩
          case measure => simp [intOf]; omega
        · obtain rfl : j = R := by omega
          obtain ⟨wq, hwq⟩ : ∃ wq : World, wq = wr := ⟨_, rfl⟩
          subst hwq
          have B2q : Bl w2 wq := b2.trans (h3.trans bj)
          have BQ : Bl w wq := B3.trans bj
          have B1q : Bl w1 wq := b1.trans (h2.trans B2q)
          have k1q := (k12.later h3).later bj
          have k2q := (k2.later h3).later bj
          obtain ⟨R, rfl⟩ : ∃ R, R = j := ⟨_, rfl⟩
          clear k1 k2 k12 HDC
          go_wp2_with fail
          go_loopw [65] (fun v wr => ∃ i : Nat, v = .int .i64 i ∧ i ≤ R ∧ Bl wq wr) (fun v _ => R - (intOf v).toNat)
          case atStart => exact ⟨0, rfl, Nat.zero_le _, Bl.refl _⟩
          case round =>
            obtain ⟨i, rfl, hi', bi⟩ := hrel
            by_cases hi : i < R
            · go_wp2_with fail
              go_loopw [69] (fun v wr => ∃ k : Nat, v = .int .i64 k ∧ k ≤ R ∧ Bl wq wr) (fun v _ => R - (intOf v).toNat)
              case atStart => exact ⟨0, rfl, Nat.zero_le _, bi⟩
              case round =>
                obtain ⟨k, rfl, hk', bk⟩ := hrel
                by_cases hk : k < R
                · have K1 := k1q.later bk
                  obtain ⟨c0, c1', c2', f0, f1, f2, lt⟩ := id K1
                  obtain ⟨z, hz⟩ : ∃ z, z = signsH kdN (fun j => lowN (f j j)) f i k := ⟨_, rfl⟩
                  have HZ := hideP hz
                  obtain ⟨x, hx⟩ : ∃ x, x = f i k := ⟨_, rfl⟩
                  have AT := hideP (fun u (hu : Bl wq u) => by have := mAtN R R p1 la c1 f u (HX.out.later (B1q.trans hu)) i k hi hk; rw [← hx] at this; exact this)
                  obtain ⟨d, hd⟩ : ∃ d, d = f k k := ⟨_, rfl⟩
                  have AD := hideP (fun u (hu : Bl wq u) => by have := mAtN R R p1 la c1 f u (HX.out.later (B1q.trans hu)) k k hk hk; rw [← hd] at this; exact this)
                  have SGC := hideP (fun u => signE_any d u)
                  have ZV := hideP (show z = if k ≤ i ∧ lowN d = true then negE x else x by rw [hz, hx, hd]; rfl)
                  have LD := hideP (show lowN d = decide (signE d < 0) from rfl)
                  generalize signE d = sg at *
                  clear hz hx hd
                  go_wp2_with fail
                  refine (AT.out _ bk).mono ?_
                  rintro e w5 ⟨rfl, h5⟩
                  have kx := Box.new w5 x 28
                  obtain ⟨W6, hW6⟩ : ∃ W6, W6 = w5.alloc (.cells #[.int .i64 x.v, .int .i64 x.l, .int .i64 x.h, .bool x.bad] 28) := ⟨_, rfl⟩
                  have b6 : Bl w5 W6 := by rw [hW6]; exact (Bl.refl _).alloc _
                  rw [← hW6] at kx
                  have HW6 := hideP hW6
                  have b56 : Bl wq W6 := bk.trans (h5.trans b6)
                  clear hW6 c0 c1' c2' f0 f1 f2 lt
                  by_cases hik : k ≤ i
                  · have hik' : (k : Int) ≤ (i : Int) := by omega
                    obtain ⟨c0, c1', c2', f0, f1, f2, lt⟩ := (K1.later h5)
                    go_wp2_with fail
                    rw [← HW6.out]
                    refine (AD.out _ b56).mono ?_
                    rintro e w7 ⟨rfl, h7⟩
                    clear c0 c1' c2' f0 f1 f2 lt
                    go_wp2_with fail
                    refine (SGC.out _).mono ?_
                    rintro e w8 ⟨rfl, h8⟩
                    have b68 : Bl W6 w8 := h7.trans h8
                    have kx8 := kx.later b68
                    by_cases hs : sg < 0
                    · have HV := hideP (show z = negE x by rw [ZV.out, if_pos ⟨hik, by rw [LD.out]; exact decide_eq_true hs⟩])
                      obtain ⟨z0, z1, z2, z3, _, _, _, _, _⟩ := id kx8
                      go_wp2_with fail
                      refine (eneg_any x _).mono ?_
                      rintro e w9 ⟨rfl, h9⟩
                      rw [← HV.out]
                      have kx9 := kx8.later h9
                      have KZ0 := kx9.fill z
                      have BS0 : Bl wq (((((w9.setCell ⟨w5.heap.size, 0, none⟩ (.int .i64 z.v)).setCell ⟨w5.heap.size, 1, none⟩ (.int .i64 z.l)).setCell ⟨w5.heap.size, 2, none⟩ (.int .i64 z.h)).setCell ⟨w5.heap.size, 3, none⟩ (.bool z.bad))) := Bl.set4 (b56.trans (b68.trans h9)) (by have := (bk.trans h5).size; omega) _ _ _ _
                      have KS0 := k2q.later BS0
                      obtain ⟨W9, hW9⟩ : ∃ W9, W9 = (((((w9.setCell ⟨w5.heap.size, 0, none⟩ (.int .i64 z.v)).setCell ⟨w5.heap.size, 1, none⟩ (.int .i64 z.l)).setCell ⟨w5.heap.size, 2, none⟩ (.int .i64 z.h)).setCell ⟨w5.heap.size, 3, none⟩ (.bool z.bad))) := ⟨_, rfl⟩
                      rw [← hW9] at KZ0 BS0 KS0
                      have HW9 := hideP hW9
                      obtain ⟨y0, y1, y2, y3, g0, g1, g2, g3, _⟩ := id kx9
                      clear hW9 z0 z1 z2 z3
                      go_wp2_with fail
                      rw [← HW9.out]
                      clear y0 y1 y2 y3 g0 g1 g2 g3
                      have KZ := hideP KZ0
                      have KS := hideP KS0
                      have BS := hideP BS0
                      have AS := hideP (fun u (hu : Bl wq u) => by have := mAtN R R p2 la c2 (signsH kdN (fun j => lowN (f j j)) f) u (HS2.out.later (B2q.trans hu)) i k hi hk; rw [← HZ.out] at this; exact this)
                      have NEQ := fun u => neq_nn z u
                      clear KZ0 KS0 BS0
                      refine (wpIn_wide (n := 8)).1 (region_q fm [some 89, some 90, some 91, some 92, some 93, some 94] (fun _ => false) 6 (by kernel_rfl) (by rfl)
                        (fun j v u => match j with | 0 => v = mV R R p2 la c2 | 1 => v = .int .i64 i | 2 => v = .int .i64 k | 3 => v = enV z | 4 => v = enV z | 5 => v = .bool false | _ => False)
                        (fun j v u u' _ h => h) (fun vs u0 u => u = u0) ?step ?still ?store ?fin)
                      case step =>
                        intro j o t act u ho hdt hpu hsz hu hfr hin
                        have hj : j < 6 := (Array.getElem?_eq_some_iff.1 ho).1
                        obtain ⟨c0, c1', c2', _, _, _, _⟩ := KS.out.later hu
                        obtain ⟨z0, z1, z2, z3, _, _, _, _, _⟩ := KZ.out.later hu
                        rcases (by omega : j = 0 ∨ j = 1 ∨ j = 2 ∨ j = 3 ∨ j = 4 ∨ j = 5) with rfl | rfl | rfl | rfl | rfl | rfl
                        · simp only [List.getElem?_toArray, List.getElem?_cons_zero, List.getElem?_cons_succ, Option.some.injEq] at ho
                          subst ho
                          obtain rfl := Option.some.inj hdt
                          have i7 : act.eval (.tmp (7 : Nat)) = .pointer (some ⟨w2.heap.size, 0, none⟩) := hfr 7 (by decide)
                          exact plain_wp (by intro c h; cases h) (fun _ _ => trivial) (by simp only [execOp, i7, evalC, evalF, evalG]; simp [go_sem, c0, c1', c2', z0, z1, z2, z3]) ⟨_, rfl, rfl, Bl.refl _⟩
                        · simp only [List.getElem?_toArray, List.getElem?_cons_zero, List.getElem?_cons_succ, Option.some.injEq] at ho
                          subst ho
                          obtain rfl := Option.some.inj hdt
                          have i11 : act.eval (.tmp (11 : Nat)) = .int .i64 i := hfr 11 (by decide)
                          exact plain_wp (by intro c h; cases h) (fun _ _ => trivial) (by simp only [execOp, i11, evalC, evalF, evalG]; simp [go_sem]) ⟨_, rfl, rfl, Bl.refl _⟩
                        · simp only [List.getElem?_toArray, List.getElem?_cons_zero, List.getElem?_cons_succ, Option.some.injEq] at ho
                          subst ho
                          obtain rfl := Option.some.inj hdt
                          have i12 : act.eval (.tmp (12 : Nat)) = .int .i64 k := hfr 12 (by decide)
                          exact plain_wp (by intro c h; cases h) (fun _ _ => trivial) (by simp only [execOp, i12, evalC, evalF, evalG]; simp [go_sem]) ⟨_, rfl, rfl, Bl.refl _⟩
                        · simp only [List.getElem?_toArray, List.getElem?_cons_zero, List.getElem?_cons_succ, Option.some.injEq] at ho
                          subst ho
                          obtain rfl := Option.some.inj hdt
                          have i89 : (act.eval (.tmp (89 : Nat))) = mV R R p2 la c2 := hin ⟨0, .data⟩ (by simp) rfl 89 rfl
                          have i90 : (act.eval (.tmp (90 : Nat))) = .int .i64 i := hin ⟨1, .data⟩ (by simp) rfl 90 rfl
                          have i91 : (act.eval (.tmp (91 : Nat))) = .int .i64 k := hin ⟨2, .data⟩ (by simp) rfl 91 rfl
                          refine enter_wp 22 #[mV R R p2 la c2, .int .i64 i, .int .i64 k] (by intro c h; cases h) (fun _ _ => trivial) (by simp only [execOp, evalC, evalF, evalG, resolve, i89, i90, i91, List.map_toArray, List.map_cons, List.map_nil]; simp [invoke, egA, Result.andThen, go_sem]) (by intro h; cases h) (callsIn_wide.2 (AS.out u (BS.out.trans hu))) ?_
                          rintro e w' ⟨rfl, hb⟩
                          exact ⟨_, rfl, _, rfl, rfl, hb⟩
                        · simp only [List.getElem?_toArray, List.getElem?_cons_zero, List.getElem?_cons_succ, Option.some.injEq] at ho
                          subst ho
                          obtain rfl := Option.some.inj hdt
                          have i13 : act.eval (.tmp (13 : Nat)) = .pointer (some ⟨w5.heap.size, 0, none⟩) := hfr 13 (by decide)
                          exact plain_wp (by intro c h; cases h) (fun _ _ => trivial) (by simp only [execOp, i13, evalC, evalF, evalG]; simp [go_sem, c0, c1', c2', z0, z1, z2, z3]) ⟨_, rfl, rfl, Bl.refl _⟩
                        · simp only [List.getElem?_toArray, List.getElem?_cons_zero, List.getElem?_cons_succ, Option.some.injEq] at ho
                          subst ho
                          obtain rfl := Option.some.inj hdt
                          have i92 : (act.eval (.tmp (92 : Nat))) = enV z := hin ⟨3, .data⟩ (by simp) rfl 92 rfl
                          have i93 : (act.eval (.tmp (93 : Nat))) = enV z := hin ⟨4, .data⟩ (by simp) rfl 93 rfl
                          exact plain_wp (by intro c h; cases h) (fun _ _ => trivial) (by have N := NEQ u; have EG := Tryz.nnGuard; simp only [execOp, i92, i93]; simp [go_sem, EG, N]) ⟨_, rfl, rfl, Bl.refl _⟩
                      case still =>
                        intro j o t act u0 u ho hdt hpu
                        cases hpu
                      case store =>
                        intro o act u vs ho
                        cases ho
                      case fin =>
                        intro vs vb u0 u hu hin hps
                        have a0 := hin 0 89 rfl
                        have a1 := hin 1 90 rfl
                        have a2 := hin 2 91 rfl
                        have a3 := hin 3 92 rfl
                        have a4 := hin 4 93 rfl
                        have a5 := hin 5 94 rfl
                        simp only [putL, Act.put, List.setIfInBounds_toArray, List.set_cons_zero, List.set_cons_succ, Nat.zero_add, Nat.reduceAdd, Nat.reduceBEq, Bool.or_false, Bool.or_true, Bool.false_or, Bool.true_or, Bool.false_eq_true, if_false, if_true, reduceIte, Nat.reduceEqDiff, beq_self_eq_true, Bool.or_self] at a0 a1 a2 a3 a4 a5 ⊢
                        rw [if_neg (by decide)] at hps
                        simp only [a0, a1, a2, a3, a4, a5]
                        have BZ := BS.out.trans hu
                        subst hps
                        go_wp2
                        go_roundw
                        case rel => exact ⟨k + 1, by simp, by omega, BZ⟩
                        case measure => simp [intOf]; omega
                    · have HV := hideP (show z = x by rw [ZV.out, if_neg (fun h => hs (by have := h.2; rw [LD.out] at this; exact of_decide_eq_true this))])
                      have KZ0 : Box w8 w5.heap.size z := by rw [HV.out]; exact kx8
                      have BS0 : Bl wq w8 := b56.trans b68
                      have KS0 := k2q.later BS0
                      go_wp2_with fail
                      have KZ := hideP KZ0
                      have KS := hideP KS0
                      have BS := hideP BS0
                      have AS := hideP (fun u (hu : Bl wq u) => by have := mAtN R R p2 la c2 (signsH kdN (fun j => lowN (f j j)) f) u (HS2.out.later (B2q.trans hu)) i k hi hk; rw [← HZ.out] at this; exact this)
                      have NEQ := fun u => neq_nn z u
                      clear KZ0 KS0 BS0
                      refine (wpIn_wide (n := 8)).1 (region_q fm [some 89, some 90, some 91, some 92, some 93, some 94] (fun _ => false) 6 (by kernel_rfl) (by rfl)
                        (fun j v u => match j with | 0 => v = mV R R p2 la c2 | 1 => v = .int .i64 i | 2 => v = .int .i64 k | 3 => v = enV z | 4 => v = enV z | 5 => v = .bool false | _ => False)
                        (fun j v u u' _ h => h) (fun vs u0 u => u = u0) ?step ?still ?store ?fin)
                      case step =>
                        intro j o t act u ho hdt hpu hsz hu hfr hin
                        have hj : j < 6 := (Array.getElem?_eq_some_iff.1 ho).1
                        obtain ⟨c0, c1', c2', _, _, _, _⟩ := KS.out.later hu
                        obtain ⟨z0, z1, z2, z3, _, _, _, _, _⟩ := KZ.out.later hu
                        rcases (by omega : j = 0 ∨ j = 1 ∨ j = 2 ∨ j = 3 ∨ j = 4 ∨ j = 5) with rfl | rfl | rfl | rfl | rfl | rfl
                        · simp only [List.getElem?_toArray, List.getElem?_cons_zero, List.getElem?_cons_succ, Option.some.injEq] at ho
                          subst ho
                          obtain rfl := Option.some.inj hdt
                          have i7 : act.eval (.tmp (7 : Nat)) = .pointer (some ⟨w2.heap.size, 0, none⟩) := hfr 7 (by decide)
                          exact plain_wp (by intro c h; cases h) (fun _ _ => trivial) (by simp only [execOp, i7, evalC, evalF, evalG]; simp [go_sem, c0, c1', c2', z0, z1, z2, z3]) ⟨_, rfl, rfl, Bl.refl _⟩
                        · simp only [List.getElem?_toArray, List.getElem?_cons_zero, List.getElem?_cons_succ, Option.some.injEq] at ho
                          subst ho
                          obtain rfl := Option.some.inj hdt
                          have i11 : act.eval (.tmp (11 : Nat)) = .int .i64 i := hfr 11 (by decide)
                          exact plain_wp (by intro c h; cases h) (fun _ _ => trivial) (by simp only [execOp, i11, evalC, evalF, evalG]; simp [go_sem]) ⟨_, rfl, rfl, Bl.refl _⟩
                        · simp only [List.getElem?_toArray, List.getElem?_cons_zero, List.getElem?_cons_succ, Option.some.injEq] at ho
                          subst ho
                          obtain rfl := Option.some.inj hdt
                          have i12 : act.eval (.tmp (12 : Nat)) = .int .i64 k := hfr 12 (by decide)
                          exact plain_wp (by intro c h; cases h) (fun _ _ => trivial) (by simp only [execOp, i12, evalC, evalF, evalG]; simp [go_sem]) ⟨_, rfl, rfl, Bl.refl _⟩
                        · simp only [List.getElem?_toArray, List.getElem?_cons_zero, List.getElem?_cons_succ, Option.some.injEq] at ho
                          subst ho
                          obtain rfl := Option.some.inj hdt
                          have i89 : (act.eval (.tmp (89 : Nat))) = mV R R p2 la c2 := hin ⟨0, .data⟩ (by simp) rfl 89 rfl
                          have i90 : (act.eval (.tmp (90 : Nat))) = .int .i64 i := hin ⟨1, .data⟩ (by simp) rfl 90 rfl
                          have i91 : (act.eval (.tmp (91 : Nat))) = .int .i64 k := hin ⟨2, .data⟩ (by simp) rfl 91 rfl
                          refine enter_wp 22 #[mV R R p2 la c2, .int .i64 i, .int .i64 k] (by intro c h; cases h) (fun _ _ => trivial) (by simp only [execOp, evalC, evalF, evalG, resolve, i89, i90, i91, List.map_toArray, List.map_cons, List.map_nil]; simp [invoke, egA, Result.andThen, go_sem]) (by intro h; cases h) (callsIn_wide.2 (AS.out u (BS.out.trans hu))) ?_
                          rintro e w' ⟨rfl, hb⟩
                          exact ⟨_, rfl, _, rfl, rfl, hb⟩
                        · simp only [List.getElem?_toArray, List.getElem?_cons_zero, List.getElem?_cons_succ, Option.some.injEq] at ho
                          subst ho
                          obtain rfl := Option.some.inj hdt
                          have i13 : act.eval (.tmp (13 : Nat)) = .pointer (some ⟨w5.heap.size, 0, none⟩) := hfr 13 (by decide)
                          exact plain_wp (by intro c h; cases h) (fun _ _ => trivial) (by simp only [execOp, i13, evalC, evalF, evalG]; simp [go_sem, c0, c1', c2', z0, z1, z2, z3]) ⟨_, rfl, rfl, Bl.refl _⟩
                        · simp only [List.getElem?_toArray, List.getElem?_cons_zero, List.getElem?_cons_succ, Option.some.injEq] at ho
                          subst ho
                          obtain rfl := Option.some.inj hdt
                          have i92 : (act.eval (.tmp (92 : Nat))) = enV z := hin ⟨3, .data⟩ (by simp) rfl 92 rfl
                          have i93 : (act.eval (.tmp (93 : Nat))) = enV z := hin ⟨4, .data⟩ (by simp) rfl 93 rfl
                          exact plain_wp (by intro c h; cases h) (fun _ _ => trivial) (by have N := NEQ u; have EG := Tryz.nnGuard; simp only [execOp, i92, i93]; simp [go_sem, EG, N]) ⟨_, rfl, rfl, Bl.refl _⟩
                      case still =>
                        intro j o t act u0 u ho hdt hpu
                        cases hpu
                      case store =>
                        intro o act u vs ho
                        cases ho
                      case fin =>
                        intro vs vb u0 u hu hin hps
                        have a0 := hin 0 89 rfl
                        have a1 := hin 1 90 rfl
                        have a2 := hin 2 91 rfl
                        have a3 := hin 3 92 rfl
                        have a4 := hin 4 93 rfl
                        have a5 := hin 5 94 rfl
                        simp only [putL, Act.put, List.setIfInBounds_toArray, List.set_cons_zero, List.set_cons_succ, Nat.zero_add, Nat.reduceAdd, Nat.reduceBEq, Bool.or_false, Bool.or_true, Bool.false_or, Bool.true_or, Bool.false_eq_true, if_false, if_true, reduceIte, Nat.reduceEqDiff, beq_self_eq_true, Bool.or_self] at a0 a1 a2 a3 a4 a5 ⊢
                        rw [if_neg (by decide)] at hps
                        simp only [a0, a1, a2, a3, a4, a5]
                        have BZ := BS.out.trans hu
                        subst hps
                        go_wp2
                        go_roundw
                        case rel => exact ⟨k + 1, by simp, by omega, BZ⟩
                        case measure => simp [intOf]; omega
                  · have hik' : ¬ (k : Int) ≤ (i : Int) := by omega
                    have HV := hideP (show z = x by rw [ZV.out, if_neg (fun h => hik h.1)])
                    have KZ0 : Box W6 w5.heap.size z := by rw [HV.out]; exact kx
                    have BS0 : Bl wq W6 := b56
                    have KS0 := k2q.later BS0
                    go_wp2_with fail
                    rw [← HW6.out]
                    have KZ := hideP KZ0
                    have KS := hideP KS0
                    have BS := hideP BS0
                    have AS := hideP (fun u (hu : Bl wq u) => by have := mAtN R R p2 la c2 (signsH kdN (fun j => lowN (f j j)) f) u (HS2.out.later (B2q.trans hu)) i k hi hk; rw [← HZ.out] at this; exact this)
                    have NEQ := fun u => neq_nn z u
                    clear KZ0 KS0 BS0
                    refine (wpIn_wide (n := 8)).1 (region_q fm [some 89, some 90, some 91, some 92, some 93, some 94] (fun _ => false) 6 (by kernel_rfl) (by rfl)
                      (fun j v u => match j with | 0 => v = mV R R p2 la c2 | 1 => v = .int .i64 i | 2 => v = .int .i64 k | 3 => v = enV z | 4 => v = enV z | 5 => v = .bool false | _ => False)
                      (fun j v u u' _ h => h) (fun vs u0 u => u = u0) ?step ?still ?store ?fin)
                    case step =>
                      intro j o t act u ho hdt hpu hsz hu hfr hin
                      have hj : j < 6 := (Array.getElem?_eq_some_iff.1 ho).1
                      obtain ⟨c0, c1', c2', _, _, _, _⟩ := KS.out.later hu
                      obtain ⟨z0, z1, z2, z3, _, _, _, _, _⟩ := KZ.out.later hu
                      rcases (by omega : j = 0 ∨ j = 1 ∨ j = 2 ∨ j = 3 ∨ j = 4 ∨ j = 5) with rfl | rfl | rfl | rfl | rfl | rfl
                      · simp only [List.getElem?_toArray, List.getElem?_cons_zero, List.getElem?_cons_succ, Option.some.injEq] at ho
                        subst ho
                        obtain rfl := Option.some.inj hdt
                        have i7 : act.eval (.tmp (7 : Nat)) = .pointer (some ⟨w2.heap.size, 0, none⟩) := hfr 7 (by decide)
                        exact plain_wp (by intro c h; cases h) (fun _ _ => trivial) (by simp only [execOp, i7, evalC, evalF, evalG]; simp [go_sem, c0, c1', c2', z0, z1, z2, z3]) ⟨_, rfl, rfl, Bl.refl _⟩
                      · simp only [List.getElem?_toArray, List.getElem?_cons_zero, List.getElem?_cons_succ, Option.some.injEq] at ho
                        subst ho
                        obtain rfl := Option.some.inj hdt
                        have i11 : act.eval (.tmp (11 : Nat)) = .int .i64 i := hfr 11 (by decide)
                        exact plain_wp (by intro c h; cases h) (fun _ _ => trivial) (by simp only [execOp, i11, evalC, evalF, evalG]; simp [go_sem]) ⟨_, rfl, rfl, Bl.refl _⟩
                      · simp only [List.getElem?_toArray, List.getElem?_cons_zero, List.getElem?_cons_succ, Option.some.injEq] at ho
                        subst ho
                        obtain rfl := Option.some.inj hdt
                        have i12 : act.eval (.tmp (12 : Nat)) = .int .i64 k := hfr 12 (by decide)
                        exact plain_wp (by intro c h; cases h) (fun _ _ => trivial) (by simp only [execOp, i12, evalC, evalF, evalG]; simp [go_sem]) ⟨_, rfl, rfl, Bl.refl _⟩
                      · simp only [List.getElem?_toArray, List.getElem?_cons_zero, List.getElem?_cons_succ, Option.some.injEq] at ho
                        subst ho
                        obtain rfl := Option.some.inj hdt
                        have i89 : (act.eval (.tmp (89 : Nat))) = mV R R p2 la c2 := hin ⟨0, .data⟩ (by simp) rfl 89 rfl
                        have i90 : (act.eval (.tmp (90 : Nat))) = .int .i64 i := hin ⟨1, .data⟩ (by simp) rfl 90 rfl
                        have i91 : (act.eval (.tmp (91 : Nat))) = .int .i64 k := hin ⟨2, .data⟩ (by simp) rfl 91 rfl
                        refine enter_wp 22 #[mV R R p2 la c2, .int .i64 i, .int .i64 k] (by intro c h; cases h) (fun _ _ => trivial) (by simp only [execOp, evalC, evalF, evalG, resolve, i89, i90, i91, List.map_toArray, List.map_cons, List.map_nil]; simp [invoke, egA, Result.andThen, go_sem]) (by intro h; cases h) (callsIn_wide.2 (AS.out u (BS.out.trans hu))) ?_
                        rintro e w' ⟨rfl, hb⟩
                        exact ⟨_, rfl, _, rfl, rfl, hb⟩
                      · simp only [List.getElem?_toArray, List.getElem?_cons_zero, List.getElem?_cons_succ, Option.some.injEq] at ho
                        subst ho
                        obtain rfl := Option.some.inj hdt
                        have i13 : act.eval (.tmp (13 : Nat)) = .pointer (some ⟨w5.heap.size, 0, none⟩) := hfr 13 (by decide)
                        exact plain_wp (by intro c h; cases h) (fun _ _ => trivial) (by simp only [execOp, i13, evalC, evalF, evalG]; simp [go_sem, c0, c1', c2', z0, z1, z2, z3]) ⟨_, rfl, rfl, Bl.refl _⟩
                      · simp only [List.getElem?_toArray, List.getElem?_cons_zero, List.getElem?_cons_succ, Option.some.injEq] at ho
                        subst ho
                        obtain rfl := Option.some.inj hdt
                        have i92 : (act.eval (.tmp (92 : Nat))) = enV z := hin ⟨3, .data⟩ (by simp) rfl 92 rfl
                        have i93 : (act.eval (.tmp (93 : Nat))) = enV z := hin ⟨4, .data⟩ (by simp) rfl 93 rfl
                        exact plain_wp (by intro c h; cases h) (fun _ _ => trivial) (by have N := NEQ u; have EG := Tryz.nnGuard; simp only [execOp, i92, i93]; simp [go_sem, EG, N]) ⟨_, rfl, rfl, Bl.refl _⟩
                    case still =>
                      intro j o t act u0 u ho hdt hpu
                      cases hpu
                    case store =>
                      intro o act u vs ho
                      cases ho
                    case fin =>
                      intro vs vb u0 u hu hin hps
                      have a0 := hin 0 89 rfl
                      have a1 := hin 1 90 rfl
                      have a2 := hin 2 91 rfl
                      have a3 := hin 3 92 rfl
                      have a4 := hin 4 93 rfl
                      have a5 := hin 5 94 rfl
                      simp only [putL, Act.put, List.setIfInBounds_toArray, List.set_cons_zero, List.set_cons_succ, Nat.zero_add, Nat.reduceAdd, Nat.reduceBEq, Bool.or_false, Bool.or_true, Bool.false_or, Bool.true_or, Bool.false_eq_true, if_false, if_true, reduceIte, Nat.reduceEqDiff, beq_self_eq_true, Bool.or_self] at a0 a1 a2 a3 a4 a5 ⊢
                      rw [if_neg (by decide)] at hps
                      simp only [a0, a1, a2, a3, a4, a5]
                      have BZ := BS.out.trans hu
                      subst hps
                      go_wp2
                      go_roundw
                      case rel => exact ⟨k + 1, by simp, by omega, BZ⟩
                      case measure => simp [intOf]; omega
                · obtain rfl : k = R := by omega
                  go_wp2
                  go_roundw
                  case rel => exact ⟨i + 1, by simp, by omega, bk⟩
                  case measure => simp [intOf]; omega
            · obtain rfl : i = R := by omega
              go_wp2_with fail
              refine (AW.out _).mono ?_
              rintro e w99 ⟨rfl, h99⟩
              go_wp2
              go_ret
              exact ⟨rfl, (BQ.trans bi).trans h99⟩
end Go.Proofs.YtafjmogkiohjgaaGreat

/- A slice of enclosed numbers as an argument: opened. -/
namespace Go.Proofs.YtafjmogkiohjgaaGreat
open Go.ChangeShapes Go.WideShapes Go.ChangeAt Go.RowKit Go.Joins Go.Deep
set_option linter.unusedVariables false

set_option maxRecDepth 1000000 in
theorem num_cells {H : Type} {enc : TypeId × Value → H} {W : World} {base : Nat} {spare : Nat → Bool} {held : Bool} {n : Nat} {cs : List Value} {y : DataW H × List MemPlace}
    (h : DataW.trod enc Tryz.prog W base spare held n 28 cs = some y) : ∃ a : En, cs = cellsN a := by
  obtain ⟨y0, y1, y2, y3, m, _, hl, h0, h1, h2, h3⟩ := trod_struct4 Tryz.underlying28 h
  rw [cellsNum] at hl
  match cs, hl with
  | [c0, c1, c2, c3], _ =>
    have hone : oneCellFields Tryz.prog (Tryz.prog.fieldsOf 28) = true := by kernel_rfl
    have k1 : Tryz.prog.cellsOf 3 = 1 := by kernel_rfl
    have k2 : Tryz.prog.cellsOf 4 = 1 := by kernel_rfl
    simp only [k1, k2, List.drop_zero, List.drop_succ_cons, List.take_succ_cons, List.take_zero] at h0 h1 h2 h3
    obtain ⟨x, e0, _, wx⟩ := DataW.trod_int Tryz.underlying3 h0
    obtain ⟨y, e1, _, wy⟩ := DataW.trod_int Tryz.underlying3 h1
    obtain ⟨z, e2, _, wz⟩ := DataW.trod_int Tryz.underlying3 h2
    obtain ⟨b, e3, _⟩ := DataW.trod_bool Tryz.underlying4 h3
    simp at e0 e1 e2 e3
    subst e0 e1 e2 e3
    exact ⟨⟨x, y, z, b⟩, rfl⟩
set_option maxRecDepth 1000000 in
theorem open_nums {H : Type} {enc : TypeId × Value → H} {W : World} {b0 : Nat} {v : Value} {d : DataW H} {p : List MemPlace}
    (hv : Value.okWide Tryz.prog W .any b0 22 v) (h : DataW.Trod enc Tryz.prog W 0 (fun _ => true) true 22 v d p) : ∃ ns : List En, Rq 4 cellsN W v ns := by
  obtain ⟨a0, len, cap, rfl⟩ := okWide_slice Tryz.underlying22 hv
  obtain ⟨fuel, hf⟩ := h
  rcases open_slice Tryz.underlying22 hf with ⟨hcs, hx⟩ | ⟨a, len', cap', m, n, D, Pl, hcs, _, hl, hm, hmm, hx, hcell⟩
  · simp [Value.cells] at hcs
    obtain ⟨rfl, rfl, rfl⟩ := hcs
    exact ⟨[], .inl ⟨none, 0, rfl, rfl, fun _ => rfl⟩⟩
  · simp [Value.cells] at hcs
    obtain ⟨rfl, rfl, rfl⟩ := hcs
    simp only [if_true] at hmm
    subst hmm
    by_cases h0 : len = 0
    · subst h0
      exact ⟨[], .inl ⟨some a, m, rfl, rfl, nofun⟩⟩
    · rw [cellsNum] at hcell
      have each : ∀ i, i < len → ∃ e : En, W.cells? 0 (a.add (i * 4)) 4 = some (cellsN e) := fun i hi => by
        obtain ⟨cs', h1, h2⟩ := hcell i (by omega)
        obtain ⟨e, rfl⟩ := num_cells h2
        exact ⟨e, h1⟩
      have inh : Inhabited En := ⟨⟨0, 0, 0, false⟩⟩
      obtain ⟨E, hE⟩ := choose_lt each
      have c00 := (World.cells?_some (hE 0 (by omega))).2.2 0 (by omega)
      obtain ⟨b, off, spot⟩ := a
      have hs : spot = none := by
        have : W.cell? ⟨b, off, spot⟩ = some (.int .i64 (E 0).v) := by simpa [Addr.add, cellsN] using c00
        exact World.cell?_spot this
      subst hs
      have hb : b < W.heap.size := by
        have : W.cell? ⟨b, off, none⟩ = some (.int .i64 (E 0).v) := by simpa [Addr.add, cellsN] using c00
        exact block_lt_of_cell this
      refine ⟨(List.range len).map E, .inr ⟨b, off, m, by simp, by simp; omega, hb, fun j x hj k u hu => ?_⟩⟩
      have hj2 : j < len := by have := (List.getElem?_eq_some_iff.1 hj).1; simpa using this
      rw [List.getElem?_map, List.getElem?_range hj2] at hj
      have hx' : E j = x := by simpa using hj
      subst hx'
      have hk : k < 4 := by have := (List.getElem?_eq_some_iff.1 hu).1; simpa [cellsN] using this
      have := (World.cells?_some (hE j hj2)).2.2 k hk
      rw [add_plain, add_plain, hu] at this
      exact this
end Go.Proofs.YtafjmogkiohjgaaGreat

/- For every slice of enclosed numbers and every int, HouseSigns tells true: no diagonal of a triangle whose signs are set is below 0, and each of its numbers is what the document's words make of it (P8.1). Conditions: none (every input). -/
namespace Go.Proofs.YtafjmogkiohjgaaGreat
open Go.ChangeShapes Go.WideShapes Go.ChangeAt Go.RowKit
set_option linter.unusedVariables false

theorem own_HouseSigns : ownKnob Tryz.prog.godebug = none := by kernel_rfl
theorem laid_HouseSigns : laidOutB Tryz.prog = true := by kernel_rfl
set_option maxRecDepth 100000 in
theorem lifted_HouseSigns (os : Os) (started : os.Started) (H : Type) (enc : TypeId × Value → H) :
    ReturnsInHanded {} Tryz.checked os 5 .any (Rows.houseSignsSpec.pre6 enc Tryz.prog Tryz.f5 Rows.houseSignsRow.domain false) (Rows.houseSignsSpec.post enc Tryz.prog Tryz.f5 false true false false) := by
  refine returnsInHanded_of_change (C := Tryz.checked) own_HouseSigns started (by kernel_rfl) Tryz.func5
    (ChangeSpec.witness6 (enc := enc) (C := Tryz.checked) false ⟨#[], #[.slice none 0 0, .int .i64 0], []⟩ 8 (by kernel_rfl) (by kernel_rfl) (by kernel_rfl) (by kernel_rfl)) ?_
  intro W base args ds gs before hval0 hW hcnd _
  have hval : ∀ (j : Nat) t v, Tryz.f5.params[j]? = some t → args[j]? = some v → Value.okWide Tryz.prog W .any base t v := hval0
  have hW' := hW
  obtain ⟨p, q, hA0, hV, rfl, hfz, hnd⟩ := hW
  have hA : DataW.TrodAll enc Tryz.prog W 0 (fun _ => true) true Tryz.f5.params.toList args.toList ds p := hA0
  rw [Tryz.params5] at hA hval
  obtain ⟨v0, vs0, d0, ds0, p0, q0, hargs, rfl, rfl, h0, r0⟩ := trodAll_cons hA
  obtain ⟨v1, vs1, d1, ds1, p1, q1, rfl, rfl, rfl, h1, r1⟩ := trodAll_cons r0
  obtain ⟨rfl, rfl, rfl⟩ := trodAll_nil r1
  obtain rfl : args = #[v0, v1] := by cases args; simp_all
  obtain ⟨rfl, rfl⟩ := trodVars_none hV
  have hltA := fun x hx => hW'.lt x hx
  obtain ⟨a0, R0⟩ := open_nums (hval 0 22 v0 rfl rfl) h0
  obtain ⟨a1, e1, _, _, w1⟩ := open_int Tryz.underlying3 (hval 1 3 v1 rfl rfl) h1
  subst e1
  clear hA0 hval0
  refine (walk_HouseSigns v0 a0 a1 W R0).mono fun e W' ⟨he, bel⟩ => ?_
  subst he
  exact ⟨_, rfl, _, _, _, [], _, [], hW', trodAll_mk1 (shut_bool Tryz.underlying4 _), (trodAll_cons_mk (Below.trod laid_HouseSigns (by kernel_rfl) (of_decide_eq_true (by kernel_rfl)) h0 bel (fun x hx => by have := hltA x (by simp [hx]); simpa using this)) (trodAll_cons_mk (Below.trod laid_HouseSigns (by kernel_rfl) (of_decide_eq_true (by kernel_rfl)) h1 bel (fun x hx => by have := hltA x (by simp [hx]); simpa using this)) trodAll_mk0)), rfl, Below.frame bel _, fun h => by cases h⟩

theorem proved_HouseSigns : Rows.HouseSignsSaid :=
  OpenClaim.holds_of_wide 5 Tryz.f5 rfl rfl rfl rfl rfl rfl rfl ⟨rfl, rfl, rfl, rfl, rfl⟩ rfl rfl rfl rfl rfl (by kernel_rfl) Tryz.func5 (by kernel_rfl)
    (of_decide_eq_true (by kernel_rfl)) (by unfold Func.isWrapper; first | (rw [if_pos (by decide +kernel)]; kernel_rfl) | (rw [if_neg (by decide +kernel)]; exact ⟨rfl, rfl⟩))
    (fun os started H enc _ => lifted_HouseSigns os started H enc)
#print axioms proved_HouseSigns
end Go.Proofs.YtafjmogkiohjgaaGreat
