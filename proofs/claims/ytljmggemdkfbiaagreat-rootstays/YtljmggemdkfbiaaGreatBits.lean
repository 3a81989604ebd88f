/- Rows of bits in memory; the contracts of the document's Bits, Add, Sub, Less, Up, Number. -/
import Derived.Test.YtljmggemdkfbiaaGreatMid
import Derived.Test.YtljmggemdkfbiaaGreatBitM
import Derived.BigQuiet
namespace Go.Proofs.YtljmggemdkfbiaaGreat
open Go.RowKit
set_option linter.unusedSimpArgs false
set_option linter.unusedVariables false

theorem Tryz.info_int : (Tryz.prog.info? 3).map (fun i => (i.zero, i.size, i.bytes)) = some (some (.int .i64 0), 1, 8) := by kernel_rfl

/-- v is a row of 130 bits, whose number is n. -/
def Row (w : World) (v : Value) (n : Int) : Prop :=
  ∃ (b o cap : Nat) (xs : List Int), v = .slice (some ⟨b, o, none⟩) 130 cap ∧ 130 ≤ cap ∧ b < w.heap.size ∧ xs.length = 130 ∧ AllBits xs ∧ bval xs = n ∧
    ∀ j, j < 130 → w.cell? ⟨b, o + j, none⟩ = some (.int .i64 (xs.getD j 0))
theorem Row.later {w w' : World} {v : Value} {n : Int} (h : Row w v n) (hb : Bl w w') : Row w' v n := by
  obtain ⟨b, o, cap, xs, e, hc, hl, hx, ha, hv, hcell⟩ := h
  exact ⟨b, o, cap, xs, e, hc, Nat.lt_of_lt_of_le hl hb.size, hx, ha, hv, fun j hj => (bl_cell hb _ _ hl).trans (hcell j hj)⟩
theorem Row.bd {w : World} {v : Value} {n : Int} (h : Row w v n) : 0 ≤ n ∧ n < 1361129467683753853853498429727072845824 := by
  obtain ⟨b, o, cap, xs, e, hc, hl, hx, ha, hv, hcell⟩ := h
  have := bval_bd xs ha
  rw [hx, hv] at this
  exact this
/-- What has been appended, as a row. -/
theorem row_of_own {w : World} {B : Nat} {v : Value} {xs : List Int} (h : w.ownsRow B 3 1 v xs.length (xs.map (Value.int .i64))) (hl : xs.length = 130) (ha : AllBits xs) : Row w v (bval xs) := by
  have hlt := h.lt
  have hh := h
  obtain ⟨h1, h2⟩ := h
  rcases h2 with ⟨_, e⟩ | ⟨g, cap, cur, rfl, hb, _, hn, hm, hs, ht⟩
  · omega
  · refine ⟨g, 0, cap, xs, by rw [hl], by omega, (hlt g rfl).2, hl, ha, rfl, fun j hj => ?_⟩
    have := hh.cellAt j (by omega)
    rw [List.getElem?_map, List.getElem?_eq_getElem (by omega)] at this
    rw [List.getD_eq_getElem?_getD, List.getElem?_eq_getElem (by omega), Nat.zero_add]
    exact this
theorem bl_of_below {w w' : World} (h : Below w.heap.size w w') : Bl w w' := h

/-- The relation behind an append of one number. -/
theorem own_step {w wr w1 : World} {v v' : Value} {xs : List Int} {x : Int} {o : Obj} (hb : Bl w wr) (hown : wr.ownsRow w.heap.size 3 1 v xs.length (xs.map (Value.int .i64)))
    (hown' : w1.ownsRow w.heap.size 3 1 v' (xs.length + 1) (xs.map (Value.int .i64) ++ [.int .i64 x])) (hg : (wr.alloc o).grownBy w1 v.ownBlock) :
    Bl w w1 ∧ w1.ownsRow w.heap.size 3 1 v' (xs ++ [x]).length ((xs ++ [x]).map (Value.int .i64)) := by
  refine ⟨Below.grown (Below.alloc hb hb.size o) hg (by have := hb.size; simp; omega) (fun k hk => (hown.lt k hk).1), ?_⟩
  simpa using hown'

end Go.Proofs.YtljmggemdkfbiaaGreat
