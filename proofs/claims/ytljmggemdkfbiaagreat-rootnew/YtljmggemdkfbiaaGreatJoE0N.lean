/- Contract of joseph's Update, of enclosed numbers (layer 9). Written by genJo.py. -/
import Derived.Test.YtljmggemdkfbiaaGreatJoCN
import Derived.Test.YtljmggemdkfbiaaGreatJo2
import Derived.Test.YtljmggemdkfbiaaGreatVeHN
import Derived.Test.YtljmggemdkfbiaaGreatMaZN
namespace Go.Proofs.YtljmggemdkfbiaaGreat
open Go.RowKit
set_option linter.unusedSimpArgs false
set_option linter.unusedVariables false

/-- The news as a value, and in a block. -/
abbrev newsVN (x y : En) : Value := .agg #[.int .i64 x.v, .int .i64 x.l, .int .i64 x.h, .bool x.bad, .int .i64 y.v, .int .i64 y.l, .int .i64 y.h, .bool y.bad]
structure NBoxN (w : World) (b : Nat) (x y : En) : Prop where
  c0 : w.cell? ⟨b, 0, none⟩ = some (.int .i64 x.v)
  c1 : w.cell? ⟨b, 1, none⟩ = some (.int .i64 x.l)
  c2 : w.cell? ⟨b, 2, none⟩ = some (.int .i64 x.h)
  c3 : w.cell? ⟨b, 3, none⟩ = some (.bool x.bad)
  c4 : w.cell? ⟨b, 4, none⟩ = some (.int .i64 y.v)
  c5 : w.cell? ⟨b, 5, none⟩ = some (.int .i64 y.l)
  c6 : w.cell? ⟨b, 6, none⟩ = some (.int .i64 y.h)
  c7 : w.cell? ⟨b, 7, none⟩ = some (.bool y.bad)
  f0 : w.frozen? ⟨b, 0, none⟩ = false
  f1 : w.frozen? ⟨b, 1, none⟩ = false
  f2 : w.frozen? ⟨b, 2, none⟩ = false
  f3 : w.frozen? ⟨b, 3, none⟩ = false
  f4 : w.frozen? ⟨b, 4, none⟩ = false
  f5 : w.frozen? ⟨b, 5, none⟩ = false
  f6 : w.frozen? ⟨b, 6, none⟩ = false
  f7 : w.frozen? ⟨b, 7, none⟩ = false
  lt : b < w.heap.size
theorem NBoxN.heap {w w' : World} {b : Nat} {x y : En} (h : NBoxN w b x y) (e : w'.heap[b]? = w.heap[b]?) (hs : w.heap.size ≤ w'.heap.size) : NBoxN w' b x y :=
  ⟨(World.cell?_of_block (a := ⟨b, 0, none⟩) e).trans h.c0, (World.cell?_of_block (a := ⟨b, 1, none⟩) e).trans h.c1, (World.cell?_of_block (a := ⟨b, 2, none⟩) e).trans h.c2, (World.cell?_of_block (a := ⟨b, 3, none⟩) e).trans h.c3, (World.cell?_of_block (a := ⟨b, 4, none⟩) e).trans h.c4, (World.cell?_of_block (a := ⟨b, 5, none⟩) e).trans h.c5, (World.cell?_of_block (a := ⟨b, 6, none⟩) e).trans h.c6, (World.cell?_of_block (a := ⟨b, 7, none⟩) e).trans h.c7, (World.frozen?_of_block (a := ⟨b, 0, none⟩) e).trans h.f0, (World.frozen?_of_block (a := ⟨b, 1, none⟩) e).trans h.f1, (World.frozen?_of_block (a := ⟨b, 2, none⟩) e).trans h.f2, (World.frozen?_of_block (a := ⟨b, 3, none⟩) e).trans h.f3, (World.frozen?_of_block (a := ⟨b, 4, none⟩) e).trans h.f4, (World.frozen?_of_block (a := ⟨b, 5, none⟩) e).trans h.f5, (World.frozen?_of_block (a := ⟨b, 6, none⟩) e).trans h.f6, (World.frozen?_of_block (a := ⟨b, 7, none⟩) e).trans h.f7, Nat.lt_of_lt_of_le h.lt hs⟩
theorem NBoxN.later {w w' : World} {b : Nat} {x y : En} (h : NBoxN w b x y) (k : Bl w w') : NBoxN w' b x y := h.heap (Below.block k b h.lt) (Below.size k)
theorem NBoxN.new (w : World) (x y : En) (t : TypeId) : NBoxN (w.alloc (.cells #[.int .i64 x.v, .int .i64 x.l, .int .i64 x.h, .bool x.bad, .int .i64 y.v, .int .i64 y.l, .int .i64 y.h, .bool y.bad] t)) w.heap.size x y := by
  refine ⟨?_, ?_, ?_, ?_, ?_, ?_, ?_, ?_, ?_, ?_, ?_, ?_, ?_, ?_, ?_, ?_, by simp⟩ <;> simp [go_sem]
theorem NBoxN.fill {u : World} {b : Nat} {x y : En} (h : NBoxN u b x y) (x' y' : En) : NBoxN ((((((((u.setCell ⟨b, 0, none⟩ (.int .i64 x'.v)).setCell ⟨b, 1, none⟩ (.int .i64 x'.l)).setCell ⟨b, 2, none⟩ (.int .i64 x'.h)).setCell ⟨b, 3, none⟩ (.bool x'.bad)).setCell ⟨b, 4, none⟩ (.int .i64 y'.v)).setCell ⟨b, 5, none⟩ (.int .i64 y'.l)).setCell ⟨b, 6, none⟩ (.int .i64 y'.h)).setCell ⟨b, 7, none⟩ (.bool y'.bad)) b x' y' := by
  obtain ⟨c0, c1, c2, c3, c4, c5, c6, c7, f0, f1, f2, f3, f4, f5, f6, f7, lt⟩ := h
  refine ⟨?_, ?_, ?_, ?_, ?_, ?_, ?_, ?_, ?_, ?_, ?_, ?_, ?_, ?_, ?_, ?_, ?_⟩ <;> simp [go_sem, *]
theorem scale_linN (p : Option Addr) (n cap : Nat) (x : Nat → En) (b : En) (w : World) (h : Rw 4 cellsN w (.slice p n cap) (linJ n x)) (hl : n ≤ 1000000) :
    Calls Tryz.prog 78 #[.slice p n cap, enV b] w fun e w' => ∃ q c, e = .returned (.slice q n c) ∧ Rw 4 cellsN w' (.slice q n c) (linJ n fun i => mulE (x i) b) ∧ Bl w w' :=
  (vScaleN _ _ b w h (by rw [linJ_len]; exact hl)).mono fun e w' ⟨u, he, hr, hb⟩ => by
    rw [linJ_map] at hr
    obtain ⟨q, c, rfl, _, _⟩ := hr.cut
    rw [linJ_len] at hr he
    exact ⟨q, c, he, hr, hb⟩
theorem add_linN (p q : Option Addr) (n cap cap2 : Nat) (x y : Nat → En) (w : World) (h : Rq 4 cellsN w (.slice p n cap) (linJ n x)) (h2 : Rq 4 cellsN w (.slice q n cap2) (linJ n y)) (hl : n ≤ 1000000) :
    Calls Tryz.prog 77 #[.slice p n cap, .slice q n cap2] w fun e w' => ∃ q c, e = .returned (.slice q n c) ∧ (Rw 4 cellsN w' (.slice q n c) (linJ n fun i => addE (x i) (y i)) ∧ Fresh w.heap.size (.slice q n c)) ∧ Bl w w' :=
  (vAddN' _ _ _ _ w h h2 (by rw [linJ_len]; exact hl) (by rw [linJ_len]; exact hl)).mono fun e w' ⟨u, he, hr, hf, hb⟩ => by
    rw [linJ_zip] at hr
    obtain ⟨q, c, rfl, _, _⟩ := hr.cut
    rw [linJ_len] at hr hf he
    exact ⟨q, c, he, ⟨hr, hf⟩, hb⟩
theorem Tryz.buildNN (x y : En) (u : World) : (Instr.build 54 #[(0, enV x), (1, enV y)]).run Tryz.prog u = .ok (newsVN x y) u := by kernel_rfl
end Go.Proofs.YtljmggemdkfbiaaGreat
