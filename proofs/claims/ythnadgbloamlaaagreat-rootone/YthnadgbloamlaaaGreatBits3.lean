/- The contracts of the document's Up, Less, Number. -/
import Derived.Test.YthnadgbloamlaaaGreatBits
namespace Go.Proofs.YthnadgbloamlaaaGreat
open Go.RowKit
set_option linter.unusedSimpArgs false
set_option linter.unusedVariables false

theorem addr_add (b o j : Nat) : (⟨b, o, none⟩ : Addr).add j = ⟨b, o + j, none⟩ := by
  unfold Addr.add
  by_cases h : j = 0
  · subst h; rfl
  · simp [h]

theorem up_val (az : List Int) (bit : Int) (la : az.length = 130) (aa : AllBits az) (hb : bit = 0 ∨ bit = 1) :
    bval (bit :: az.take 129) = (2 * bval az + bit) % 1361129467683753853853498429727072845824 := by
  have a := bval_split az 129 (by omega)
  have b := bval_drop_succ az 129 (by omega)
  rw [List.drop_of_length_le (by omega : az.length ≤ 130)] at b
  have c := bval_bd _ (aa.take 129)
  rw [List.length_take, Nat.min_eq_left (by omega)] at c
  have d := aa.getD 129
  have e129 : (2 : Int) ^ 129 = 680564733841876926926749214863536422912 := by decide
  rw [e129] at a c
  have e0 : bval ([] : List Int) = 0 := rfl
  show bit + 2 * bval (az.take 129) = _
  omega

set_option maxHeartbeats 1000000 in
set_option maxRecDepth 1000000 in
theorem up_any (va : Value) (m bit : Int) (w : World) (ra : Row w va m) (hb : bit = 0 ∨ bit = 1) :
    Calls Tryz.prog 213 #[va, .int .i64 bit] w fun e w' => ∃ v, e = .returned v ∧ Row w' v ((2 * m + bit) % 1361129467683753853853498429727072845824) ∧ Bl w w' := by
  obtain ⟨i0, hi, hz0, hz1, hz2⟩ := info_parts Tryz.info_int
  obtain ⟨ba, oa, ca, az, rfl, hca, hba, la, aa, rfl, cella⟩ := ra
  have e := up_val az bit la aa hb
  have hab : AllBits (bit :: az.take 129) := fun x hx => by
    rcases List.mem_cons.1 hx with k | k
    · rw [k]; exact hb
    · exact (aa.take 129) x k
  have hll : (bit :: az.take 129).length = 130 := by simp [la]
  have own0 := World.ownsRow_lit (base := w.heap.size) (e := 3) (size := 1) w #[.int .i64 bit] 1 (Nat.le_refl _) (by unfold maxLen; omega) rfl
  have hnews : ∀ j u, ((az.take 129).map (Value.int .i64))[j]? = some u → (w.alloc (.cells #[.int .i64 bit] 3)).cell? ((⟨ba, oa, none⟩ : Addr).add j) = some u := by
    intro j u hj
    rw [addr_add]
    rw [bl_cell ((Bl.refl w).alloc _) _ _ hba]
    rw [List.getElem?_map] at hj
    have hj' : j < 129 := by
      rcases Nat.lt_or_ge j 129 with k | k
      · exact k
      · rw [List.getElem?_eq_none (by rw [List.length_take]; omega)] at hj; cases hj
    rw [List.getElem?_take, if_pos hj', List.getElem?_eq_getElem (by omega)] at hj
    rw [cella j (by omega), List.getD_eq_getElem?_getD, List.getElem?_eq_getElem (by omega)]
    exact hj
  have HN : Hid _ := hnews
  have HO : Hid _ := own0
  have HE : Hid _ := e
  clear cella hnews own0 e
  have hl129 : ((az.take 129).map (Value.int .i64)).length = 129 * 1 := by simp [la]
  have HL : Hid _ := hl129
  clear hl129
  go_enter Tryz.func213, Tryz.ntmps213
  go_wp2_with (at_builtin; refine wpList_append_own _ rfl _ _ 54 rfl w.heap.size 3 i0 (.int .i64 0) 1 8 Tryz.underlying54 hi hz0 hz1 hz2 rfl (by decide) (.slice (some ⟨w.heap.size, 0, none⟩) 1 1) 1 [.int .i64 bit] rfl HO.out ⟨ba, oa, none⟩ 129 ca ((az.take 129).map (Value.int .i64)) rfl HL.out HN.out (ints_oneCell _ _) (by unfold maxLen; omega) (by omega) (by simp) ?_; intro v' w1 hown' hgrow _)
  have R := row_of_own (xs := bit :: az.take 129) (B := w.heap.size) (by rw [hll]; exact hown') hll hab
  rw [HE.out] at R
  have hB : Bl w w1 := Below.grown (Below.alloc (Bl.refl w) (Nat.le_refl _) _) hgrow (by simp) (fun k hk => by injection hk with hk; subst hk; exact Nat.le_refl _)
  clear hown' hgrow
  have HR : Hid _ := R
  clear R
  go_ret
  exact ⟨_, rfl, HR.out, hB⟩

set_option maxHeartbeats 1000000 in
set_option maxRecDepth 1000000 in
theorem less_any (va vb : Value) (m n : Int) (w : World) (ra : Row w va m) (rb : Row w vb n) :
    Calls Tryz.prog 186 #[va, vb] w fun e w' => e = .returned (.bool (decide (m < n))) ∧ Bl w w' := by
  obtain ⟨ba, oa, ca, az, rfl, hca, hba, la, aa, hm, cella⟩ := ra
  obtain ⟨bb, ob, cb, bz, rfl, hcb, hbb, lb, ab, hn, cellb⟩ := rb
  have LA := less_at az bz aa ab
  rw [hm, hn] at LA
  have CA : Hid _ := cella
  have CB : Hid _ := cellb
  have HL : Hid _ := LA
  have HM : Hid (bval az = m) := hm
  have HNN : Hid (bval bz = n) := hn
  clear cella cellb LA hm hn
  go_enter Tryz.func186, Tryz.ntmps186
  go_wp2_with fail
  go_loopw [5] (fun i wr => ∃ k : Nat, i = .int .i64 ((k : Int) - 1) ∧ k ≤ 130 ∧ bval (az.drop k) = bval (bz.drop k) ∧ Bl w wr) (fun i _ => (intOf i + 1).toNat)
  case atStart => exact ⟨130, rfl, Nat.le_refl _, by rw [List.drop_of_length_le (by omega), List.drop_of_length_le (by omega)], Bl.refl _⟩
  case round =>
    obtain ⟨k, rfl, hk, he, hB⟩ := hrel
    have HE : Hid (bval (az.drop k) = bval (bz.drop k)) := he
    clear he
    cases k with
    | zero =>
      have hd : decide (m < n) = false := by
        have := HE.out
        rw [List.drop_zero, List.drop_zero, HM.out, HNN.out] at this
        rw [this]; simp
      rw [show ((0 : Nat) : Int) - 1 = -1 from rfl]
      have HD : Hid _ := hd
      clear hd
      go_wp2
      go_ret
      refine ⟨?_, hB⟩
      rw [HD.out]
      rfl
    | succ j =>
      rw [show ((j + 1 : Nat) : Int) - 1 = (j : Int) from by omega]
      have ga := (bl_cell hB _ (oa + j) hba).trans (CA.out j (by omega))
      have gb := (bl_cell hB _ (ob + j) hbb).trans (CB.out j (by omega))
      have T := HL.out j la lb (by omega) HE.out
      have D := bval_drop_succ az j (by omega)
      have D' := bval_drop_succ bz j (by omega)
      generalize az.getD j 0 = x at *
      generalize bz.getD j 0 = y at *
      have HT : Hid _ := T
      have HD : Hid _ := D
      have HD' : Hid _ := D'
      clear T D D'
      have hjI : (j : Int) < 130 := by omega
      have hj0 : (0 : Int) ≤ (j : Int) := by omega
      have keep : ∀ W, Bl wr W → W.cell? ⟨ba, oa + j, none⟩ = some (.int .i64 x) ∧ W.cell? ⟨bb, ob + j, none⟩ = some (.int .i64 y) :=
        fun W h => ⟨(bl_cell h _ _ (Nat.lt_of_lt_of_le hba hB.size)).trans ga, (bl_cell h _ _ (Nat.lt_of_lt_of_le hbb hB.size)).trans gb⟩
      have KP : Hid _ := keep
      clear keep
      by_cases hxy : x = y
      · have hne : (x != y) = false := by simpa using hxy
        have HX : Hid (x = y) := hxy
        clear hxy
        go_wp2_with fail
        go_region_held3 (fun w' => w'.cell? ⟨ba, oa + j, none⟩ = some (.int .i64 x) ∧ w'.cell? ⟨bb, ob + j, none⟩ = some (.int .i64 y)) (exact KP.out _ (by repeat (first | exact Bl.refl _ | apply Bl.drew | apply Bl.alloc))) (first | fail)
        go_wp2
        go_roundw
        case rel => exact ⟨j, rfl, by omega, by rw [HD.out, HD'.out, HE.out, HX.out], hB.drew⟩
        case measure => simp [intOf]
      · have hne : (x != y) = true := by simpa using hxy
        have T := HT.out hxy
        have HT' : Hid _ := T
        clear T HT hxy
        go_wp2_with fail
        go_region_held3 (fun w' => w'.cell? ⟨ba, oa + j, none⟩ = some (.int .i64 x) ∧ w'.cell? ⟨bb, ob + j, none⟩ = some (.int .i64 y)) (exact KP.out _ (by repeat (first | exact Bl.refl _ | apply Bl.drew | apply Bl.alloc))) (first | fail)
        go_wp2_with fail
        go_region_held3 (fun w' => w'.cell? ⟨ba, oa + j, none⟩ = some (.int .i64 x) ∧ w'.cell? ⟨bb, ob + j, none⟩ = some (.int .i64 y)) (exact KP.out _ (by repeat (first | exact Bl.refl _ | apply Bl.drew | apply Bl.alloc))) (first | fail)
        go_wp2
        go_ret
        refine ⟨?_, hB.drew.drew⟩
        rw [← HT'.out]
        rfl

theorem num_top (az : List Int) (aa : AllBits az) (la : az.length = 130) (j : Nat) (hj : j < 130) (h62 : 62 ≤ j) (h : az.getD j 0 = 1) : 4611686018427387904 ≤ bval az := by
  have a := bval_split az j (by omega)
  have b := bval_bd _ (aa.take j)
  have c := bval_drop_succ az j (by omega)
  have d := bval_bd _ (aa.drop (j + 1))
  have e : (2 : Int) ^ 62 ≤ 2 ^ j := by
    have : (2 : Nat) ^ 62 ≤ 2 ^ j := Nat.pow_le_pow_right (by decide) h62
    exact_mod_cast this
  have e62 : (2 : Int) ^ 62 = 4611686018427387904 := by decide
  rw [e62] at e
  have f := Int.mul_le_mul_of_nonneg_left (show (1 : Int) ≤ bval (az.drop j) by omega) (show (0 : Int) ≤ 2 ^ j by omega)
  rw [Int.mul_one] at f
  omega

theorem pow_half (j : Nat) (h : j < 62) : (2 : Int) ^ (62 - j) = 2 * 2 ^ (62 - (j + 1)) := by
  rw [show 62 - j = 62 - (j + 1) + 1 from by omega, Int.pow_succ, Int.mul_comm]
theorem pow_le62 (j : Nat) : (2 : Int) ^ (62 - j) ≤ 4611686018427387904 := by
  have : (2 : Nat) ^ (62 - j) ≤ 2 ^ 62 := Nat.pow_le_pow_right (by decide) (by omega)
  have e : ((2 ^ (62 - j) : Nat) : Int) ≤ ((2 ^ 62 : Nat) : Int) := by exact_mod_cast this
  simpa using e
def nmN (m : Int) : Int := if m < 4611686018427387904 then m else 0
def nmB (m : Int) : Bool := decide (m < 4611686018427387904)

set_option maxHeartbeats 1000000 in
set_option maxRecDepth 1000000 in
/-- A row as a number: it may be one just below 2^62. -/
theorem number_any (va : Value) (m : Int) (w : World) (ra : Row w va m) :
    Calls Tryz.prog 224 #[va] w fun e w' => e = .returned (.tuple #[.int .i64 (nmN m), .bool (nmB m)]) ∧ Bl w w' := by
  obtain ⟨ba, oa, ca, az, rfl, hca, hba, la, aa, hm, cella⟩ := ra
  have CA : Hid _ := cella
  have HM : Hid (bval az = m) := hm
  clear cella hm
  go_enter Tryz.func224, Tryz.ntmps224
  go_wp2_with fail
  go_loopw [4, 5] (fun a i wr => ∃ k : Nat, i = .int .i64 ((k : Int) - 1) ∧ k ≤ 130 ∧ a = .int .i64 (bval (az.drop k)) ∧ bval (az.drop k) < 2 ^ (62 - k) ∧ Bl w wr) (fun _ i _ => (intOf i + 1).toNat)
  case atStart =>
    have e : az.drop 130 = [] := List.drop_of_length_le (by omega)
    exact ⟨130, rfl, Nat.le_refl _, by rw [e]; rfl, by rw [e]; decide, Bl.refl _⟩
  case round =>
    obtain ⟨k, rfl, hk, rfl, hlt, hB⟩ := hrel
    cases k with
    | zero =>
      have hv : bval (az.drop 0) = m := by rw [List.drop_zero]; exact HM.out
      rw [hv] at hlt
      have := pow_le62 0
      have h1 : m < 4611686018427387904 := by omega
      rw [show ((0 : Nat) : Int) - 1 = -1 from rfl, hv]
      have f1 : nmN m = m := if_pos h1
      have f2 : nmB m = true := decide_eq_true h1
      have F1 : Hid _ := f1
      have F2 : Hid _ := f2
      clear f1 f2 hv h1 this hlt
      go_wp2
      go_ret2
      refine ⟨?_, hB⟩
      rw [F1.out, F2.out]
      rfl
    | succ j =>
      rw [show ((j + 1 : Nat) : Int) - 1 = (j : Int) from by omega]
      have ga := (bl_cell hB _ (oa + j) hba).trans (CA.out j (by omega))
      have D := bval_drop_succ az j (by omega)
      have T := num_top az aa la j (by omega)
      rw [HM.out] at T
      have x01 := aa.getD j
      have N0 := (bval_bd _ (aa.drop (j + 1))).1
      generalize az.getD j 0 = x at *
      generalize bval (az.drop (j + 1)) = t at *
      have x0 : 0 ≤ x := by omega
      have x1 : x ≤ 1 := by omega
      have hjI : (j : Int) < 130 := by omega
      have hj0 : (0 : Int) ≤ (j : Int) := by omega
      have HD : Hid (bval (az.drop j) = x + 2 * t) := D
      clear D
      by_cases h62 : 62 ≤ j
      · have h62I : (62 : Int) ≤ (j : Int) := by omega
        have t0 : t = 0 := by
          rw [show 62 - (j + 1) = 0 from by omega] at hlt
          simp at hlt
          omega
        subst t0
        rcases x01 with rfl | rfl
        · have e1 : ((0 : Int) == 1) = false := rfl
          clear T hlt
          go_wp2
          go_roundw
          case rel => exact ⟨j, rfl, by omega, by rw [HD.out]; rfl, by rw [HD.out]; have := pow_pos2 (62 - j); omega, hB⟩
          case measure => simp [intOf]
        · have hbig := T h62 rfl
          have f1 : nmN m = 0 := if_neg (by omega)
          have f2 : nmB m = false := decide_eq_false (by omega)
          have F1 : Hid _ := f1
          have F2 : Hid _ := f2
          clear T hlt f1 f2 hbig
          go_wp2
          go_ret2
          refine ⟨?_, hB⟩
          rw [F1.out, F2.out]
          rfl
      · have h62I : ¬ (62 : Int) ≤ (j : Int) := by omega
        have e1 := pow_half j (by omega)
        have e2 := pow_le62 j
        have hb2 : x + 2 * t < 2 ^ (62 - j) := by omega
        have hb3 : 2 * t + x ≤ 4611686018427387903 := by omega
        have HB2 : Hid _ := hb2
        clear T hlt e1 e2 hb2
        rcases x01 with rfl | rfl
        all_goals
          go_wp2
          go_roundw
          case rel => exact ⟨j, rfl, by omega, congrArg (Value.int .i64) (by rw [HD.out]; omega), by rw [HD.out]; exact HB2.out, hB⟩
          case measure => simp [intOf]
end Go.Proofs.YthnadgbloamlaaaGreat
