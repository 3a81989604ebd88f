/- The contracts of the document's Add, Sub. -/
import Derived.Test.YthnadgbloamlaaaGreatBits
namespace Go.Proofs.YthnadgbloamlaaaGreat
open Go.RowKit
set_option linter.unusedSimpArgs false
set_option linter.unusedVariables false

theorem add_step (xs az bz : List Int) (c : Int) (k : Nat) (hk : k < 130) (hl : xs.length = k) (la : az.length = 130) (lb : bz.length = 130)
    (h : bval xs + 2 ^ k * c = bval (az.take k) + bval (bz.take k)) :
    bval (xs ++ [(az.getD k 0 + bz.getD k 0 + c) % 2]) + 2 ^ (k + 1) * ((az.getD k 0 + bz.getD k 0 + c) / 2) = bval (az.take (k + 1)) + bval (bz.take (k + 1)) := by
  rw [bval_snoc, hl, Int.pow_succ, bval_take_succ az k (by omega), bval_take_succ bz k (by omega), Int.add_assoc, Int.mul_assoc, ← Int.mul_add]
  generalize az.getD k 0 = x
  generalize bz.getD k 0 = y
  rw [show (x + y + c) % 2 + 2 * ((x + y + c) / 2) = x + y + c by omega, Int.mul_add, Int.mul_add]
  omega

set_option maxHeartbeats 1000000 in
set_option maxRecDepth 1000000 in
theorem add_any (va vb : Value) (m n : Int) (w : World) (ra : Row w va m) (rb : Row w vb n) :
    Calls Tryz.prog 212 #[va, vb] w fun e w' => ∃ v, e = .returned v ∧ Row w' v ((m + n) % 1361129467683753853853498429727072845824) ∧ Bl w w' := by
  obtain ⟨i0, hi, hz0, hz1, hz2⟩ := info_parts Tryz.info_int
  obtain ⟨ba, oa, ca, az, rfl, hca, hba, la, aa, rfl, cella⟩ := ra
  obtain ⟨bb, ob, cb, bz, rfl, hcb, hbb, lb, ab, rfl, cellb⟩ := rb
  have CA : Hid _ := cella
  have CB : Hid _ := cellb
  clear cella cellb
  go_enter Tryz.func212, Tryz.ntmps212
  go_wp2_with fail
  go_loopw [5, 6, 7] (fun v c i wr => ∃ (c' : Int) (xs : List Int), c = .int .i64 c' ∧ i = .int .i64 xs.length ∧ xs.length ≤ 130 ∧ 0 ≤ c' ∧ c' ≤ 1 ∧ AllBits xs ∧ bval xs + 2 ^ xs.length * c' = bval (az.take xs.length) + bval (bz.take xs.length) ∧
      wr.ownsRow w.heap.size 3 1 v xs.length (xs.map (Value.int .i64)) ∧ Bl w wr) (fun _ _ i _ => 130 - (intOf i).toNat)
  case atStart => exact ⟨0, [], rfl, rfl, by simp, by omega, by omega, fun x hx => (List.not_mem_nil hx).elim, by simp [bval], World.ownsRow_nil _ _ _ _, Bl.refl _⟩
  case round =>
    obtain ⟨c, xs, rfl, rfl, hl, hc0, hc1, hab, hv, hown, hB⟩ := hrel
    have HV : Hid (bval xs + 2 ^ xs.length * c = bval (az.take xs.length) + bval (bz.take xs.length)) := hv
    clear hv
    by_cases hlt : xs.length < 130
    · have ga := (bl_cell hB _ (oa + xs.length) hba).trans (CA.out xs.length hlt)
      have gb := (bl_cell hB _ (ob + xs.length) hbb).trans (CB.out xs.length hlt)
      have ST := add_step xs az bz c xs.length hlt rfl la lb HV.out
      have xa := aa.getD xs.length
      have xb := ab.getD xs.length
      generalize az.getD xs.length 0 = x at *
      generalize bz.getD xs.length 0 = y at *
      have HST : Hid _ := ST
      clear ST HV
      have x0 : 0 ≤ x := by omega
      have x1 : x ≤ 1 := by omega
      have y0 : 0 ≤ y := by omega
      have y1 : y ≤ 1 := by omega
      clear xa xb
      have hltI : (xs.length : Int) < 130 := by omega
      go_wp2_with fail
      go_region_held3 (fun w' => w'.cell? ⟨ba, oa + xs.length, none⟩ = some (.int .i64 x) ∧ w'.cell? ⟨bb, ob + xs.length, none⟩ = some (.int .i64 y)) (simp [go_sem, *]) (first | fail)
      go_wp2_with (at_builtin; refine wpList_append_own _ rfl _ _ 54 rfl w.heap.size 3 i0 (.int .i64 0) 1 8 Tryz.underlying54 hi hz0 hz1 hz2 rfl (by decide) _ _ _ rfl (hown.drew.alloc _) ⟨_, 0, none⟩ 1 1 [.int .i64 ((x + y + c) % 2)] rfl rfl (cell_one_new _ _ _) (by intro u hu; simp at hu; subst hu; rfl) (by unfold maxLen; omega) (by omega) (by have := hB.size; simp; omega) ?_; intro v' w1 hown' hgrow _)
      have R := own_step hB.drew hown.drew hown' hgrow
      clear hown hown' hgrow
      go_roundw
      case rel =>
        refine ⟨_, xs ++ [(x + y + c) % 2], rfl, by simp, by simp; omega, by omega, by omega, hab.snoc (by omega), ?_, R.2, R.1⟩
        rw [show (xs ++ [(x + y + c) % 2]).length = xs.length + 1 from by simp]
        exact HST.out
      case measure => simp [intOf]; omega
    · have hl' : xs.length = 130 := by omega
      have e := HV.out
      rw [hl', List.take_of_length_le (by omega), List.take_of_length_le (by omega)] at e
      have hb := bval_bd xs hab
      rw [hl'] at hb
      have e130 : (2 : Int) ^ 130 = 1361129467683753853853498429727072845824 := by decide
      rw [e130] at e hb
      have hc : bval xs = (bval az + bval bz) % 1361129467683753853853498429727072845824 := by omega
      have R := row_of_own hown hl' hab
      rw [hc] at R
      clear hown e hb hc
      have HR : Hid _ := R
      clear R
      go_wp2
      go_ret
      exact ⟨_, rfl, HR.out, hB⟩

theorem sub_step (xs az bz : List Int) (c : Int) (k : Nat) (hk : k < 130) (hl : xs.length = k) (la : az.length = 130) (lb : bz.length = 130)
    (h : bval xs - 2 ^ k * c = bval (az.take k) - bval (bz.take k)) :
    bval (xs ++ [(az.getD k 0 - bz.getD k 0 - c + 2) % 2]) - 2 ^ (k + 1) * (1 - (az.getD k 0 - bz.getD k 0 - c + 2) / 2) = bval (az.take (k + 1)) - bval (bz.take (k + 1)) := by
  rw [bval_snoc, hl, Int.pow_succ, bval_take_succ az k (by omega), bval_take_succ bz k (by omega), Int.mul_assoc]
  generalize az.getD k 0 = x
  generalize bz.getD k 0 = y
  have e : (2 : Int) ^ k * ((x - y - c + 2) % 2) = 2 ^ k * (x - y - c) + 2 ^ k * (2 * (1 - (x - y - c + 2) / 2)) := by
    rw [← Int.mul_add]; congr 1; omega
  rw [e, Int.mul_sub, Int.mul_sub]
  omega

set_option maxHeartbeats 1000000 in
set_option maxRecDepth 1000000 in
theorem sub_any (va vb : Value) (m n : Int) (w : World) (ra : Row w va m) (rb : Row w vb n) :
    Calls Tryz.prog 223 #[va, vb] w fun e w' => ∃ v, e = .returned v ∧ Row w' v ((m - n) % 1361129467683753853853498429727072845824) ∧ Bl w w' := by
  obtain ⟨i0, hi, hz0, hz1, hz2⟩ := info_parts Tryz.info_int
  obtain ⟨ba, oa, ca, az, rfl, hca, hba, la, aa, rfl, cella⟩ := ra
  obtain ⟨bb, ob, cb, bz, rfl, hcb, hbb, lb, ab, rfl, cellb⟩ := rb
  have CA : Hid _ := cella
  have CB : Hid _ := cellb
  clear cella cellb
  go_enter Tryz.func223, Tryz.ntmps223
  go_wp2_with fail
  go_loopw [5, 6, 7] (fun v c i wr => ∃ (c' : Int) (xs : List Int), c = .int .i64 c' ∧ i = .int .i64 xs.length ∧ xs.length ≤ 130 ∧ 0 ≤ c' ∧ c' ≤ 1 ∧ AllBits xs ∧ bval xs - 2 ^ xs.length * c' = bval (az.take xs.length) - bval (bz.take xs.length) ∧
      wr.ownsRow w.heap.size 3 1 v xs.length (xs.map (Value.int .i64)) ∧ Bl w wr) (fun _ _ i _ => 130 - (intOf i).toNat)
  case atStart => exact ⟨0, [], rfl, rfl, by simp, by omega, by omega, fun x hx => (List.not_mem_nil hx).elim, by simp [bval], World.ownsRow_nil _ _ _ _, Bl.refl _⟩
  case round =>
    obtain ⟨c, xs, rfl, rfl, hl, hc0, hc1, hab, hv, hown, hB⟩ := hrel
    have HV : Hid (bval xs - 2 ^ xs.length * c = bval (az.take xs.length) - bval (bz.take xs.length)) := hv
    clear hv
    by_cases hlt : xs.length < 130
    · have ga := (bl_cell hB _ (oa + xs.length) hba).trans (CA.out xs.length hlt)
      have gb := (bl_cell hB _ (ob + xs.length) hbb).trans (CB.out xs.length hlt)
      have ST := sub_step xs az bz c xs.length hlt rfl la lb HV.out
      have xa := aa.getD xs.length
      have xb := ab.getD xs.length
      generalize az.getD xs.length 0 = x at *
      generalize bz.getD xs.length 0 = y at *
      have HST : Hid _ := ST
      clear ST HV
      have x0 : 0 ≤ x := by omega
      have x1 : x ≤ 1 := by omega
      have y0 : 0 ≤ y := by omega
      have y1 : y ≤ 1 := by omega
      clear xa xb
      have hltI : (xs.length : Int) < 130 := by omega
      go_wp2_with fail
      go_region_held3 (fun w' => w'.cell? ⟨ba, oa + xs.length, none⟩ = some (.int .i64 x) ∧ w'.cell? ⟨bb, ob + xs.length, none⟩ = some (.int .i64 y)) (simp [go_sem, *]) (first | fail)
      go_wp2_with (at_builtin; refine wpList_append_own _ rfl _ _ 54 rfl w.heap.size 3 i0 (.int .i64 0) 1 8 Tryz.underlying54 hi hz0 hz1 hz2 rfl (by decide) _ _ _ rfl (hown.drew.alloc _) ⟨_, 0, none⟩ 1 1 [.int .i64 ((x - y - c) % 2)] rfl rfl (cell_one_new _ _ _) (by intro u hu; simp at hu; subst hu; rfl) (by unfold maxLen; omega) (by omega) (by have := hB.size; simp; omega) ?_; intro v' w1 hown' hgrow _)
      have R := own_step hB.drew hown.drew hown' hgrow
      clear hown hown' hgrow
      go_roundw
      case rel =>
        refine ⟨1 - (x - y - c + 2) / 2, xs ++ [(x - y - c) % 2], congrArg (Value.int .i64) (by omega), by simp, by simp; omega, by omega, by omega, hab.snoc (by omega), ?_, R.2, R.1⟩
        rw [show (xs ++ [(x - y - c) % 2]).length = xs.length + 1 from by simp, show (x - y - c) % 2 = (x - y - c + 2) % 2 by omega]
        exact HST.out
      case measure => simp [intOf]; omega
    · have hl' : xs.length = 130 := by omega
      have e := HV.out
      rw [hl', List.take_of_length_le (by omega), List.take_of_length_le (by omega)] at e
      have hb := bval_bd xs hab
      rw [hl'] at hb
      have e130 : (2 : Int) ^ 130 = 1361129467683753853853498429727072845824 := by decide
      rw [e130] at e hb
      have hc : bval xs = (bval az - bval bz) % 1361129467683753853853498429727072845824 := by omega
      have R := row_of_own hown hl' hab
      rw [hc] at R
      clear hown e hb hc
      have HR : Hid _ := R
      clear R
      go_wp2
      go_ret
      exact ⟨_, rfl, HR.out, hB⟩
end Go.Proofs.YthnadgbloamlaaaGreat
