/- Rows of bits in memory; the contracts of the document's Bits, Add, Sub, Less, Up, Number. -/
import Derived.Test.YthnadgbloamlaaaGreatMid
import Derived.Test.YthnadgbloamlaaaGreatBitM
import Derived.BigQuiet
namespace Go.Proofs.YthnadgbloamlaaaGreat
open Go.RowKit
set_option linter.unusedSimpArgs false
set_option linter.unusedVariables false

theorem Tryz.info_int : (Tryz.prog.info? 3).map (fun i => (i.zero, i.size, i.bytes)) = some (some (.int .i64 0), 1, 8) := by kernel_rfl

/-- v is a row of 130 bits, whose number is n. -/
def Row (w : World) (v : Value) (n : Int) : Prop :=
  ∃ (b o cap : Nat) (xs : List Int), v = .slice (some ⟨b, o, none⟩) 130 cap ∧ 130 ≤ cap ∧ b < w.heap.size ∧ xs.length = 130 ∧ AllBits xs ∧ bval xs = n ∧
    ∀ j, j < 130 → w.cell? ⟨b, o + j, none⟩ = some (.int .i64 (xs.getD j 0))
theorem Row.later {w w' : World} {v : Value} {n : Int} (h : Row w v n) (hb : Bl w w') : Row w' v n := by
  obtain ⟨b, o, cap, xs, e, hc, hl, hx, ha, hv, hcell⟩ := h
  exact ⟨b, o, cap, xs, e, hc, Nat.lt_of_lt_of_le hl hb.size, hx, ha, hv, fun j hj => (bl_cell hb _ _ hl).trans (hcell j hj)⟩
theorem Row.bd {w : World} {v : Value} {n : Int} (h : Row w v n) : 0 ≤ n ∧ n < 1361129467683753853853498429727072845824 := by
  obtain ⟨b, o, cap, xs, e, hc, hl, hx, ha, hv, hcell⟩ := h
  have := bval_bd xs ha
  rw [hx, hv] at this
  exact this
/-- What has been appended, as a row. -/
theorem row_of_own {w : World} {B : Nat} {v : Value} {xs : List Int} (h : w.ownsRow B 3 1 v xs.length (xs.map (Value.int .i64))) (hl : xs.length = 130) (ha : AllBits xs) : Row w v (bval xs) := by
  have hlt := h.lt
  have hh := h
  obtain ⟨h1, h2⟩ := h
  rcases h2 with ⟨_, e⟩ | ⟨g, cap, cur, rfl, hb, _, hn, hm, hs, ht⟩
  · omega
  · refine ⟨g, 0, cap, xs, by rw [hl], by omega, (hlt g rfl).2, hl, ha, rfl, fun j hj => ?_⟩
    have := hh.cellAt j (by omega)
    rw [List.getElem?_map, List.getElem?_eq_getElem (by omega)] at this
    rw [List.getD_eq_getElem?_getD, List.getElem?_eq_getElem (by omega), Nat.zero_add]
    exact this
theorem bl_of_below {w w' : World} (h : Below w.heap.size w w') : Bl w w' := h

/-- The relation behind an append of one number. -/
theorem own_step {w wr w1 : World} {v v' : Value} {xs : List Int} {x : Int} {o : Obj} (hb : Bl w wr) (hown : wr.ownsRow w.heap.size 3 1 v xs.length (xs.map (Value.int .i64)))
    (hown' : w1.ownsRow w.heap.size 3 1 v' (xs.length + 1) (xs.map (Value.int .i64) ++ [.int .i64 x])) (hg : (wr.alloc o).grownBy w1 v.ownBlock) :
    Bl w w1 ∧ w1.ownsRow w.heap.size 3 1 v' (xs ++ [x]).length ((xs ++ [x]).map (Value.int .i64)) := by
  refine ⟨Below.grown (Below.alloc hb hb.size o) hg (by have := hb.size; simp; omega) (fun k hk => (hown.lt k hk).1), ?_⟩
  simpa using hown'

set_option maxHeartbeats 1000000 in
set_option maxRecDepth 1000000 in
theorem bits_any (n : Int) (w : World) (h0 : 0 ≤ n) (h1 : n ≤ 9223372036854775807) :
    Calls Tryz.prog 211 #[.int .i64 n] w fun e w' => ∃ v, e = .returned v ∧ Row w' v n ∧ Bl w w' := by
  obtain ⟨i0, hi, hz0, hz1, hz2⟩ := info_parts Tryz.info_int
  go_enter Tryz.func211, Tryz.ntmps211
  go_wp2_with fail
  go_loopw [0, 3, 4] (fun c v i wr => ∃ (c' : Int) (xs : List Int), c = .int .i64 c' ∧ i = .int .i64 xs.length ∧ xs.length ≤ 130 ∧ 0 ≤ c' ∧ c' ≤ n ∧ AllBits xs ∧ bval xs + 2 ^ xs.length * c' = n ∧
      wr.ownsRow w.heap.size 3 1 v xs.length (xs.map (Value.int .i64)) ∧ Bl w wr) (fun _ _ i _ => 130 - (intOf i).toNat)
  case atStart => exact ⟨n, [], rfl, rfl, by simp, h0, Int.le_refl _, fun x hx => (List.not_mem_nil hx).elim, by simp [bval], World.ownsRow_nil _ _ _ _, Bl.refl _⟩
  case round =>
    obtain ⟨c, xs, rfl, rfl, hl, hc0, hc1, hab, hv, hown, hB⟩ := hrel
    have HV : Hid (bval xs + 2 ^ xs.length * c = n) := hv
    clear hv
    by_cases hlt : xs.length < 130
    · go_wp2_with (at_builtin; refine wpList_append_own _ rfl _ _ 54 rfl w.heap.size 3 i0 (.int .i64 0) 1 8 Tryz.underlying54 hi hz0 hz1 hz2 rfl (by decide) _ _ _ rfl (hown.alloc _) ⟨_, 0, none⟩ 1 1 [.int .i64 (c % 2)] rfl rfl (cell_one_new _ _ _) (by intro u hu; simp at hu; subst hu; rfl) (by unfold maxLen; omega) (by omega) (by have := hB.size; simp; omega) ?_; intro v' w1 hown' hgrow _)
      have R := own_step hB hown hown' hgrow
      clear hown hown' hgrow
      go_wp2
      go_roundw
      case rel =>
        refine ⟨c / 2, xs ++ [c % 2], rfl, by simp, by simp; omega, by omega, by omega, hab.snoc (by omega), ?_, R.2, R.1⟩
        rw [show (xs ++ [c % 2]).length = xs.length + 1 from by simp]
        exact bits_step xs n c HV.out
      case measure => simp [intOf]; omega
    · have hl' : xs.length = 130 := by omega
      have e := HV.out
      rw [hl'] at e
      have hb := bval_bd xs hab
      have hc : bval xs = n := by
        have e130 : (2 : Int) ^ 130 = 1361129467683753853853498429727072845824 := by decide
        rw [e130] at e
        omega
      have R := row_of_own hown hl' hab
      rw [hc] at R
      clear hown e hb hc
      have HR : Hid _ := R
      clear R
      go_wp2
      go_ret
      exact ⟨_, rfl, HR.out, hB⟩
end Go.Proofs.YthnadgbloamlaaaGreat
