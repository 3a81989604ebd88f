/- Contract of joseph's Update, of fractions (layer 9). Written by genJo.py. -/
import Derived.Test.YtljmggemdkfbiaaGreatJoCF
import Derived.Test.YtljmggemdkfbiaaGreatJo2
import Derived.Test.YtljmggemdkfbiaaGreatVeHF
import Derived.Test.YtljmggemdkfbiaaGreatMaZ
namespace Go.Proofs.YtljmggemdkfbiaaGreat
open Go.RowKit
set_option linter.unusedSimpArgs false
set_option linter.unusedVariables false

/-- The news as a value, and in a block. -/
abbrev newsVF (x y : Fr) : Value := .agg #[.int .i64 x.n, .int .i64 x.d, .bool x.bad, .int .i64 y.n, .int .i64 y.d, .bool y.bad]
structure NBoxF (w : World) (b : Nat) (x y : Fr) : Prop where
  c0 : w.cell? ⟨b, 0, none⟩ = some (.int .i64 x.n)
  c1 : w.cell? ⟨b, 1, none⟩ = some (.int .i64 x.d)
  c2 : w.cell? ⟨b, 2, none⟩ = some (.bool x.bad)
  c3 : w.cell? ⟨b, 3, none⟩ = some (.int .i64 y.n)
  c4 : w.cell? ⟨b, 4, none⟩ = some (.int .i64 y.d)
  c5 : w.cell? ⟨b, 5, none⟩ = some (.bool y.bad)
  f0 : w.frozen? ⟨b, 0, none⟩ = false
  f1 : w.frozen? ⟨b, 1, none⟩ = false
  f2 : w.frozen? ⟨b, 2, none⟩ = false
  f3 : w.frozen? ⟨b, 3, none⟩ = false
  f4 : w.frozen? ⟨b, 4, none⟩ = false
  f5 : w.frozen? ⟨b, 5, none⟩ = false
  lt : b < w.heap.size
theorem NBoxF.heap {w w' : World} {b : Nat} {x y : Fr} (h : NBoxF w b x y) (e : w'.heap[b]? = w.heap[b]?) (hs : w.heap.size ≤ w'.heap.size) : NBoxF w' b x y :=
  ⟨(World.cell?_of_block (a := ⟨b, 0, none⟩) e).trans h.c0, (World.cell?_of_block (a := ⟨b, 1, none⟩) e).trans h.c1, (World.cell?_of_block (a := ⟨b, 2, none⟩) e).trans h.c2, (World.cell?_of_block (a := ⟨b, 3, none⟩) e).trans h.c3, (World.cell?_of_block (a := ⟨b, 4, none⟩) e).trans h.c4, (World.cell?_of_block (a := ⟨b, 5, none⟩) e).trans h.c5, (World.frozen?_of_block (a := ⟨b, 0, none⟩) e).trans h.f0, (World.frozen?_of_block (a := ⟨b, 1, none⟩) e).trans h.f1, (World.frozen?_of_block (a := ⟨b, 2, none⟩) e).trans h.f2, (World.frozen?_of_block (a := ⟨b, 3, none⟩) e).trans h.f3, (World.frozen?_of_block (a := ⟨b, 4, none⟩) e).trans h.f4, (World.frozen?_of_block (a := ⟨b, 5, none⟩) e).trans h.f5, Nat.lt_of_lt_of_le h.lt hs⟩
theorem NBoxF.later {w w' : World} {b : Nat} {x y : Fr} (h : NBoxF w b x y) (k : Bl w w') : NBoxF w' b x y := h.heap (Below.block k b h.lt) (Below.size k)
theorem NBoxF.new (w : World) (x y : Fr) (t : TypeId) : NBoxF (w.alloc (.cells #[.int .i64 x.n, .int .i64 x.d, .bool x.bad, .int .i64 y.n, .int .i64 y.d, .bool y.bad] t)) w.heap.size x y := by
  refine ⟨?_, ?_, ?_, ?_, ?_, ?_, ?_, ?_, ?_, ?_, ?_, ?_, by simp⟩ <;> simp [go_sem]
theorem NBoxF.fill {u : World} {b : Nat} {x y : Fr} (h : NBoxF u b x y) (x' y' : Fr) : NBoxF ((((((u.setCell ⟨b, 0, none⟩ (.int .i64 x'.n)).setCell ⟨b, 1, none⟩ (.int .i64 x'.d)).setCell ⟨b, 2, none⟩ (.bool x'.bad)).setCell ⟨b, 3, none⟩ (.int .i64 y'.n)).setCell ⟨b, 4, none⟩ (.int .i64 y'.d)).setCell ⟨b, 5, none⟩ (.bool y'.bad)) b x' y' := by
  obtain ⟨c0, c1, c2, c3, c4, c5, f0, f1, f2, f3, f4, f5, lt⟩ := h
  refine ⟨?_, ?_, ?_, ?_, ?_, ?_, ?_, ?_, ?_, ?_, ?_, ?_, ?_⟩ <;> simp [go_sem, *]
theorem scale_linF (p : Option Addr) (n cap : Nat) (x : Nat → Fr) (b : Fr) (w : World) (h : Rw 3 cellsF w (.slice p n cap) (linJ n x)) (hl : n ≤ 1000000) :
    Calls Tryz.prog 50 #[.slice p n cap, frV b] w fun e w' => ∃ q c, e = .returned (.slice q n c) ∧ Rw 3 cellsF w' (.slice q n c) (linJ n fun i => mulR (x i) b) ∧ Bl w w' :=
  (vScaleF _ _ b w h (by rw [linJ_len]; exact hl)).mono fun e w' ⟨u, he, hr, hb⟩ => by
    rw [linJ_map] at hr
    obtain ⟨q, c, rfl, _, _⟩ := hr.cut
    rw [linJ_len] at hr he
    exact ⟨q, c, he, hr, hb⟩
theorem add_linF (p q : Option Addr) (n cap cap2 : Nat) (x y : Nat → Fr) (w : World) (h : Rq 3 cellsF w (.slice p n cap) (linJ n x)) (h2 : Rq 3 cellsF w (.slice q n cap2) (linJ n y)) (hl : n ≤ 1000000) :
    Calls Tryz.prog 49 #[.slice p n cap, .slice q n cap2] w fun e w' => ∃ q c, e = .returned (.slice q n c) ∧ (Rw 3 cellsF w' (.slice q n c) (linJ n fun i => addR (x i) (y i)) ∧ Fresh w.heap.size (.slice q n c)) ∧ Bl w w' :=
  (vAddF' _ _ _ _ w h h2 (by rw [linJ_len]; exact hl) (by rw [linJ_len]; exact hl)).mono fun e w' ⟨u, he, hr, hf, hb⟩ => by
    rw [linJ_zip] at hr
    obtain ⟨q, c, rfl, _, _⟩ := hr.cut
    rw [linJ_len] at hr hf he
    exact ⟨q, c, he, ⟨hr, hf⟩, hb⟩
theorem Tryz.buildNF (x y : Fr) (u : World) : (Instr.build 41 #[(0, frV x), (1, frV y)]).run Tryz.prog u = .ok (newsVF x y) u := by kernel_rfl
end Go.Proofs.YtljmggemdkfbiaaGreat
