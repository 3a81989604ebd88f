/- What the laws of layer 9 use, of enclosed numbers. Written by genJo.py. -/
import Derived.Test.YtljmggemdkfbiaaGreatJoEN
import Derived.Test.YtljmggemdkfbiaaGreatJoGN
import Derived.Test.YtljmggemdkfbiaaGreatJoDN
import Derived.Test.YtljmggemdkfbiaaGreatRegU
namespace Go.Proofs.YtljmggemdkfbiaaGreat
open Go.RowKit
set_option linter.unusedSimpArgs false
set_option linter.unusedVariables false

theorem but4N (u : World) (b : Nat) (v0 v1 v2 v3 : Value) : But (fun i => i = b) u ((((u.setCell ⟨b, 0, none⟩ v0).setCell ⟨b, 1, none⟩ v1).setCell ⟨b, 2, none⟩ v2).setCell ⟨b, 3, none⟩ v3) := (((but_cell1 (S := fun i => i = b) rfl _ _ _).trans (but_cell1 (S := fun i => i = b) rfl _ _ _)).trans (but_cell1 (S := fun i => i = b) rfl _ _ _)).trans (but_cell1 (S := fun i => i = b) rfl _ _ _)
theorem heap4N {g l : Nat} (u : World) (h : l ≠ g) (v0 v1 v2 v3 : Value) : ((((u.setCell ⟨g, 0, none⟩ v0).setCell ⟨g, 1, none⟩ v1).setCell ⟨g, 2, none⟩ v2).setCell ⟨g, 3, none⟩ v3).heap[l]? = u.heap[l]? := by
  rw [heap1 _ h, heap1 _ h, heap1 _ h, heap1 _ h]
theorem noB_newSN (u : World) (t : TypeId) : NoB (u.alloc (.cells #[.slice none 0 0, .int .i64 0, .int .i64 0, .slice none 0 0] t)) u.heap.size := by
  intro o x
  rcases o with _ | _ | _ | _ | o <;> simp [go_sem]
theorem mx_ltN {u : World} {R C : Nat} {p : Option Addr} {n cap : Nat} {f : Nat → Nat → En} (h : Mx 4 cellsN u R C p n cap f) : ∀ g, (Value.slice p n cap).ownBlock = some g → g < u.heap.size := by
  obtain ⟨b', o, rfl, _, hlt, hcell⟩ := h.cells
  intro g hg
  cases hg
  exact hlt
theorem noB_rwN {u : World} {p : Option Addr} {n cap b : Nat} {x : Nat → En} (h : Rw 4 cellsN u (.slice p n cap) (linJ n x)) (h1 : 1 ≤ n) (nb : NoB u b) : ∀ g, (Value.slice p n cap).ownBlock = some g → g ≠ b := by
  rcases h with ⟨_, e⟩ | ⟨g, o, c, e, _, hlt, hx⟩
  · have := congrArg List.length e
    rw [linJ_len] at this
    simp at this
    omega
  · rintro g' hg rfl
    obtain ⟨j, y, hj⟩ := boolN (x 0)
    have := hx 0 _ (linJ_get x h1) j _ hj
    simp only [Value.slice.injEq] at e
    obtain ⟨rfl, _⟩ := e
    cases hg
    exact nb _ _ this
theorem whole_linN (p : Option Addr) (n cap : Nat) (h : Nat → Int) (w : World) (hr : Rq 1 cI w (.slice p n cap) (linJ n h)) (hl : n ≤ 1000000) :
    Calls Tryz.prog 35 #[.slice p n cap] w fun e w' => ∃ q c, e = .returned (.slice q n c) ∧ Rw 4 cellsN w' (.slice q n c) (linJ n fun i => wholeN (h i)) ∧ Bl w w' :=
  (vWholeN _ _ w hr (by rw [linJ_len]; exact hl)).mono fun e w' ⟨u, he, hr, hb⟩ => by
    rw [linJ_map] at hr
    obtain ⟨q, c, rfl, _, _⟩ := hr.cut
    rw [linJ_len] at hr he
    exact ⟨q, c, he, hr, hb⟩
/-- What an update tells, and where it is stored. -/
def updN (n N : Nat) (x : Nat → En) (P : Nat → Nat → En) (e a : En) : Upd (Option Addr × Nat × Option Addr × Nat) where
  v0 D := sJ D.1 n D.2.1 n n D.2.2.1 N D.2.2.2
  v1 _ := newsVN e a
  v2 _ := .bool true
  dat D u := Rw 4 cellsN u (.slice D.1 n D.2.1) (linJ n x) ∧ Mx 4 cellsN u n n D.2.2.1 N D.2.2.2 P
  off D b := (∀ g, (Value.slice D.1 n D.2.1).ownBlock = some g → g ≠ b) ∧ ∀ g, (Value.slice D.2.2.1 N D.2.2.2).ownBlock = some g → g ≠ b
  za u b := SBox u b none 0 0 0 0 none 0 0
  zb u b := NBoxN u b zeroE zeroE
  sa D u b := SBox u b D.1 n D.2.1 n n D.2.2.1 N D.2.2.2
  sb _ u b := NBoxN u b e a
theorem s_not_nN {u : World} {b : Nat} {px : Option Addr} {nx cx : Nat} {r c : Int} {p : Option Addr} {m cap : Nat} {x y : En} (h : SBox u b px nx cx r c p m cap) (k : NBoxN u b x y) : False := by
  have := h.c0.symm.trans k.c0
  simp at this
theorem updN_ok (n N : Nat) (x : Nat → En) (P : Nat → Nat → En) (e a : En) : UpdOk (updN n N x P e a) where
  dat_bl D u u' h k := ⟨h.1.later k, Mx.later h.2 k⟩
  dat_off D u b h hb := ⟨fun g hg => by have := h.1.lt g hg; omega, fun g hg => by have := mx_ltN h.2 g hg; omega⟩
  za_heap u u' b h _ e hs := SBox.heap h e hs
  zb_heap u u' b h _ e hs := NBoxN.heap h e hs
  sa_heap D u u' b h _ e hs := SBox.heap h e hs
  sb_heap D u u' b h _ e hs := NBoxN.heap h e hs
  ne0 u b h k := s_not_nN h k
  ne1 D u b h k := s_not_nN h k
  ne2 D u b h k := s_not_nN h k
/-- As upd, where nothing is told. -/
def updZN : Upd Unit where
  v0 _ := sJ none 0 0 0 0 none 0 0
  v1 _ := newsVN zeroE zeroE
  v2 _ := .bool false
  dat _ _ := True
  off _ _ := True
  za u b := SBox u b none 0 0 0 0 none 0 0
  zb u b := NBoxN u b zeroE zeroE
  sa _ u b := SBox u b none 0 0 0 0 none 0 0
  sb _ u b := NBoxN u b zeroE zeroE
theorem updZN_ok : UpdOk updZN where
  dat_bl D u u' h k := trivial
  dat_off D u b h hb := trivial
  za_heap u u' b h _ e hs := SBox.heap h e hs
  zb_heap u u' b h _ e hs := NBoxN.heap h e hs
  sa_heap D u u' b h _ e hs := SBox.heap h e hs
  sb_heap D u u' b h _ e hs := NBoxN.heap h e hs
  ne0 u b h k := s_not_nN h k
  ne1 D u b h k := s_not_nN h k
  ne2 D u b h k := s_not_nN h k
theorem butNN (u : World) (b : Nat) (x y : En) : But (fun i => i = b) u ((((((((u.setCell ⟨b, 0, none⟩ (.int .i64 x.v)).setCell ⟨b, 1, none⟩ (.int .i64 x.l)).setCell ⟨b, 2, none⟩ (.int .i64 x.h)).setCell ⟨b, 3, none⟩ (.bool x.bad)).setCell ⟨b, 4, none⟩ (.int .i64 y.v)).setCell ⟨b, 5, none⟩ (.int .i64 y.l)).setCell ⟨b, 6, none⟩ (.int .i64 y.h)).setCell ⟨b, 7, none⟩ (.bool y.bad)) := (((((((but_cell1 (S := fun i => i = b) rfl _ _ _).trans (but_cell1 (S := fun i => i = b) rfl _ _ _)).trans (but_cell1 (S := fun i => i = b) rfl _ _ _)).trans (but_cell1 (S := fun i => i = b) rfl _ _ _)).trans (but_cell1 (S := fun i => i = b) rfl _ _ _)).trans (but_cell1 (S := fun i => i = b) rfl _ _ _)).trans (but_cell1 (S := fun i => i = b) rfl _ _ _)).trans (but_cell1 (S := fun i => i = b) rfl _ _ _)
theorem heapNN {l b : Nat} (u : World) (h : l ≠ b) (x y : En) : ((((((((u.setCell ⟨b, 0, none⟩ (.int .i64 x.v)).setCell ⟨b, 1, none⟩ (.int .i64 x.l)).setCell ⟨b, 2, none⟩ (.int .i64 x.h)).setCell ⟨b, 3, none⟩ (.bool x.bad)).setCell ⟨b, 4, none⟩ (.int .i64 y.v)).setCell ⟨b, 5, none⟩ (.int .i64 y.l)).setCell ⟨b, 6, none⟩ (.int .i64 y.h)).setCell ⟨b, 7, none⟩ (.bool y.bad)).heap[l]? = u.heap[l]? := by
  rw [heap1 _ h, heap1 _ h, heap1 _ h, heap1 _ h, heap1 _ h, heap1 _ h, heap1 _ h, heap1 _ h]
theorem blNN {w u : World} (b : Nat) (h : Bl w u) (hb : w.heap.size ≤ b) (x y : En) : Bl w ((((((((u.setCell ⟨b, 0, none⟩ (.int .i64 x.v)).setCell ⟨b, 1, none⟩ (.int .i64 x.l)).setCell ⟨b, 2, none⟩ (.int .i64 x.h)).setCell ⟨b, 3, none⟩ (.bool x.bad)).setCell ⟨b, 4, none⟩ (.int .i64 y.v)).setCell ⟨b, 5, none⟩ (.int .i64 y.l)).setCell ⟨b, 6, none⟩ (.int .i64 y.h)).setCell ⟨b, 7, none⟩ (.bool y.bad)) := Bl.set (Bl.set (Bl.set (Bl.set (Bl.set (Bl.set (Bl.set (Bl.set (h) hb _) hb _) hb _) hb _) hb _) hb _) hb _) hb _
end Go.Proofs.YtljmggemdkfbiaaGreat
