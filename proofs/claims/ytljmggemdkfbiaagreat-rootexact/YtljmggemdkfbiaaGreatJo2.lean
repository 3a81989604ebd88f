/- Worlds between which nothing has turned but two blocks, each stored once. -/
import Derived.Test.YtljmggemdkfbiaaGreatJo1
import Derived.Test.YtljmggemdkfbiaaGreatHuA
import Derived.Test.YtljmggemdkfbiaaGreatRegR
namespace Go.Proofs.YtljmggemdkfbiaaGreat
open Go.RowKit
set_option linter.unusedSimpArgs false
set_option linter.unusedVariables false

theorem Mx.but {α : Type} {s : Nat} {c : α → List Value} {w w' : World} {R C : Nat} {p : Option Addr} {n cap : Nat} {f : Nat → Nat → α} {S : Nat → Prop} (h : Mx s c w R C p n cap f) (k : But S w w') (hs : ∀ g, (Value.slice p n cap).ownBlock = some g → ¬ S g) : Mx s c w' R C p n cap f :=
  ⟨h.1, h.2.1, by
    rcases h.2.2 with h | ⟨b, o, cap', e, hc, hb, hx⟩
    · exact .inl h
    · exact .inr ⟨b, o, cap', e, hc, Nat.lt_of_lt_of_le hb k.size, fun j x hj i u hu => (k.cell _ _ hb (hs b (by rw [e]; rfl))).trans (hx j x hj i u hu)⟩⟩
theorem MBox.but {w w' : World} {b : Nat} {r c : Int} {p : Option Addr} {n cap : Nat} {S : Nat → Prop} (h : MBox w b r c p n cap) (k : But S w w') (hs : ¬ S b) : MBox w' b r c p n cap :=
  ⟨(k.cell _ _ h.lt hs).trans h.c0, (k.cell _ _ h.lt hs).trans h.c1, (k.cell _ _ h.lt hs).trans h.c2, (k.froz _ _ h.lt hs).trans h.f0, (k.froz _ _ h.lt hs).trans h.f1, (k.froz _ _ h.lt hs).trans h.f2, Nat.lt_of_lt_of_le h.lt k.size⟩
theorem SBox.heap {w w' : World} {b : Nat} {px : Option Addr} {nx cx : Nat} {r c : Int} {p : Option Addr} {n cap : Nat} (h : SBox w b px nx cx r c p n cap) (e : w'.heap[b]? = w.heap[b]?) (hs : w.heap.size ≤ w'.heap.size) : SBox w' b px nx cx r c p n cap :=
  ⟨(World.cell?_of_block (a := ⟨b, 0, none⟩) e).trans h.c0, (World.cell?_of_block (a := ⟨b, 1, none⟩) e).trans h.c1, (World.cell?_of_block (a := ⟨b, 2, none⟩) e).trans h.c2, (World.cell?_of_block (a := ⟨b, 3, none⟩) e).trans h.c3,
   (World.frozen?_of_block (a := ⟨b, 0, none⟩) e).trans h.f0, (World.frozen?_of_block (a := ⟨b, 1, none⟩) e).trans h.f1, (World.frozen?_of_block (a := ⟨b, 2, none⟩) e).trans h.f2, (World.frozen?_of_block (a := ⟨b, 3, none⟩) e).trans h.f3, Nat.lt_of_lt_of_le h.lt hs⟩
/-- Nothing but blocks g and l has turned; each, if it turned, is as it shall be. -/
structure TwoJ (g l : Nat) (G T : World → Prop) (x y : World) : Prop where
  but : But (fun i => i = g ∨ i = l) x y
  g8 : y.heap[g]? = x.heap[g]? ∨ G y
  l9 : y.heap[l]? = x.heap[l]? ∨ T y
theorem TwoJ.bl {g l : Nat} {G T : World → Prop} {x y : World} (h : Bl x y) (hg : g < x.heap.size) (hl : l < x.heap.size) : TwoJ g l G T x y :=
  ⟨But.of_bl h, .inl (Below.block h g hg), .inl (Below.block h l hl)⟩
theorem TwoJ.trans {g l : Nat} {G T : World → Prop} (hG : ∀ x y, G x → But (fun i => i = g ∨ i = l) x y → y.heap[g]? = x.heap[g]? → G y) (hT : ∀ x y, T x → But (fun i => i = g ∨ i = l) x y → y.heap[l]? = x.heap[l]? → T y) {x y z : World} (h : TwoJ g l G T x y) (k : TwoJ g l G T y z) : TwoJ g l G T x z := by
  refine ⟨h.but.trans k.but, ?_, ?_⟩
  · rcases k.g8 with e | t
    · rcases h.g8 with e' | t
      · exact .inl (e.trans e')
      · exact .inr (hG _ _ t k.but e)
    · exact .inr t
  · rcases k.l9 with e | t
    · rcases h.l9 with e' | t
      · exact .inl (e.trans e')
      · exact .inr (hT _ _ t k.but e)
    · exact .inr t
theorem but_cell1 {S : Nat → Prop} {b : Nat} (hb : S b) (o : Nat) (v : Value) (u : World) : But S u (u.setCell ⟨b, o, none⟩ v) :=
  ⟨rfl, rfl, rfl, by simp, fun k _ hs => Below.heap_setCell _ _ _ k (by show k ≠ b; exact fun e => hs (e ▸ hb))⟩
theorem heap1 {g l : Nat} (u : World) (h : l ≠ g) (o : Nat) (v : Value) : (u.setCell ⟨g, o, none⟩ v).heap[l]? = u.heap[l]? := Below.heap_setCell _ _ _ l (by show l ≠ g; exact h)
end Go.Proofs.YtljmggemdkfbiaaGreat
