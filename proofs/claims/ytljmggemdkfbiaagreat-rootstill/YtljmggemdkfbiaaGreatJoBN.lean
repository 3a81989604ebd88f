/- Contracts of joseph's New, around, mirrored, of enclosed numbers (layer 9). Written by genJo.py. -/
import Derived.Test.YtljmggemdkfbiaaGreatJoAN
import Derived.Test.YtljmggemdkfbiaaGreatTrCN
import Derived.Test.YtljmggemdkfbiaaGreatKdf
import Derived.Test.YtljmggemdkfbiaaGreatMaXN
import Derived.Test.YtljmggemdkfbiaaGreatKdn
namespace Go.Proofs.YtljmggemdkfbiaaGreat
open Go.RowKit
set_option linter.unusedSimpArgs false
set_option linter.unusedVariables false

theorem Tryz.buildSN (q : Option Addr) (n c : Nat) (r d : Int) (p : Option Addr) (N cap : Nat) (u : World) : (Instr.build 134 #[(0, .slice q n c), (1, mV r d p N cap)]).run Tryz.prog u = .ok (sJ q n c r d p N cap) u := by kernel_rfl
theorem rw_put4N {w : World} {v : Value} {xs : List En} {b : Nat} (h : Rw 4 cellsN w v xs) (hf : Fresh (b + 1) v) (v0 v1 v2 v3 : Value) : Rw 4 cellsN ((((w.setCell ⟨b, 0, none⟩ v0).setCell ⟨b, 1, none⟩ v1).setCell ⟨b, 2, none⟩ v2).setCell ⟨b, 3, none⟩ v3) v xs := by
  rcases h with h | ⟨g, o, cap, rfl, hc, hb, hx⟩
  · exact .inl h
  · have hne : b + 1 ≤ g := hf g rfl
    have hk : ((((w.setCell ⟨b, 0, none⟩ v0).setCell ⟨b, 1, none⟩ v1).setCell ⟨b, 2, none⟩ v2).setCell ⟨b, 3, none⟩ v3).heap[g]? = w.heap[g]? := by
      rw [Below.heap_setCell _ _ _ g (by show g ≠ b; omega), Below.heap_setCell _ _ _ g (by show g ≠ b; omega), Below.heap_setCell _ _ _ g (by show g ≠ b; omega), Below.heap_setCell _ _ _ g (by show g ≠ b; omega)]
    exact .inr ⟨g, o, cap, rfl, hc, by simpa using hb, fun j x hj k v hv => (World.cell?_of_block (a := ⟨g, o + j * 4 + k, none⟩) hk).trans (hx j x hj k v hv)⟩
theorem clone_linN (px : Option Addr) (n cx : Nat) (x : Nat → En) (w : World) (h : Rq 4 cellsN w (.slice px n cx) (linJ n x)) (hl : n ≤ 1000000) :
    Calls Tryz.prog 72 #[.slice px n cx] w fun e w' => ∃ q c, e = .returned (.slice q n c) ∧ (Rw 4 cellsN w' (.slice q n c) (linJ n x) ∧ Fresh w.heap.size (.slice q n c)) ∧ Bl w w' :=
  (vCloneN _ _ w h (by rw [linJ_len]; exact hl)).mono fun e w' ⟨u, he, hr, hf, hb⟩ => by
    obtain ⟨q, c, rfl, _, _⟩ := hr.cut
    rw [linJ_len] at hr hf he
    exact ⟨q, c, he, ⟨hr, hf⟩, hb⟩
end Go.Proofs.YtljmggemdkfbiaaGreat
