/- Rows of numbers of any kind in memory (layer 5). -/
import Derived.Test.YtljmggemdkfbiaaGreatMid
namespace Go.Proofs.YtljmggemdkfbiaaGreat
open Go.RowKit
set_option linter.unusedSimpArgs false
set_option linter.unusedVariables false

/-- A slice of numbers of s cells each, which are told by c. -/
def Rw {α : Type} (s : Nat) (c : α → List Value) (w : World) (v : Value) (xs : List α) : Prop :=
  (v = .slice none 0 0 ∧ xs = []) ∨ ∃ b o cap, v = .slice (some ⟨b, o, none⟩) xs.length cap ∧ xs.length ≤ cap ∧ b < w.heap.size ∧
    ∀ j x, xs[j]? = some x → ∀ k u, (c x)[k]? = some u → w.cell? ⟨b, o + j * s + k, none⟩ = some u
theorem Rw.later {α : Type} {s : Nat} {c : α → List Value} {w w' : World} {v : Value} {xs : List α} (h : Rw s c w v xs) (k : Bl w w') : Rw s c w' v xs := by
  rcases h with h | ⟨b, o, cap, e, hc, hb, hx⟩
  · exact .inl h
  · exact .inr ⟨b, o, cap, e, hc, Nat.lt_of_lt_of_le hb (Below.size k), fun j x hj i u hu => (bl_cell k _ _ hb).trans (hx j x hj i u hu)⟩
/-- What has been appended, as a row. -/
theorem Rw.of_own {α : Type} {s : Nat} {c : α → List Value} (hs : ∀ x, (c x).length = s) {w : World} {B : Nat} {e : TypeId} {v : Value} {xs : List α}
    (h : w.ownsRow B e s v xs.length (xs.flatMap c)) : Rw s c w v xs := by
  have hlt := h.lt
  have hc : ∀ g, v.ownBlock = some g → ∀ j u, (xs.flatMap c)[j]? = some u → w.cell? ((⟨g, 0, none⟩ : Addr).add j) = some u := fun g hg => h.cells hg
  rcases h.2 with ⟨rfl, e0⟩ | ⟨g, cap, cur, rfl, hb, _, hn, hm, hz, ht⟩
  · exact .inl ⟨rfl, List.eq_nil_of_length_eq_zero e0⟩
  · refine .inr ⟨g, 0, cap, rfl, hn, (hlt g rfl).2, fun j x hj k u hu => ?_⟩
    have hf : (xs.flatMap c)[j * s + k]? = some u := by
      clear hlt hc ht hz hm hn hb h
      induction xs generalizing j with
      | nil => simp at hj
      | cons y ys ih =>
        rw [List.flatMap_cons]
        cases j with
        | zero =>
          simp at hj
          subst hj
          rw [Nat.zero_mul, Nat.zero_add, List.getElem?_append_left (by have := (List.getElem?_eq_some_iff.1 hu).1; omega)]
          exact hu
        | succ j =>
          rw [List.getElem?_append_right (by rw [hs, Nat.add_mul]; omega), hs]
          have := ih j (by simpa using hj)
          rw [show (j + 1) * s + k - s = j * s + k by rw [Nat.add_mul]; omega]
          exact this
    have := hc g rfl _ u hf
    have hadd : (⟨g, 0, none⟩ : Addr).add (j * s + k) = ⟨g, j * s + k, none⟩ := by unfold Addr.add; split <;> simp_all
    rw [hadd] at this
    simpa using this
/-- Where a cell of all cells stands. -/
theorem flat_at {α : Type} {s : Nat} {c : α → List Value} (hs : ∀ x, (c x).length = s) (xs : List α) (j : Nat) (u : Value) (h : (xs.flatMap c)[j]? = some u) : ∃ i x k, xs[i]? = some x ∧ (c x)[k]? = some u ∧ j = i * s + k := by
  induction xs generalizing j with
  | nil => simp at h
  | cons y ys ih =>
    rw [List.flatMap_cons] at h
    by_cases hj : j < s
    · rw [List.getElem?_append_left (by rw [hs]; exact hj)] at h
      exact ⟨0, y, j, by simp, h, by simp⟩
    · rw [List.getElem?_append_right (by rw [hs]; omega), hs] at h
      obtain ⟨i, x, k, h1, h2, h3⟩ := ih _ h
      exact ⟨i + 1, x, k, by simpa using h1, h2, by rw [Nat.add_mul]; omega⟩
theorem flat_len {α : Type} {s : Nat} {c : α → List Value} (hs : ∀ x, (c x).length = s) (xs : List α) : (xs.flatMap c).length = xs.length * s := by
  induction xs with
  | nil => simp
  | cons y ys ih => rw [List.flatMap_cons, List.length_append, ih, hs, List.length_cons, Nat.add_mul]; omega
theorem flat_cells {α : Type} {s : Nat} {c : α → List Value} (hs : ∀ x, (c x).length = s) {w : World} {b o : Nat} {xs : List α}
    (hx : ∀ j x, xs[j]? = some x → ∀ k u, (c x)[k]? = some u → w.cell? ⟨b, o + j * s + k, none⟩ = some u) : ∀ j u, (xs.flatMap c)[j]? = some u → w.cell? ((⟨b, o, none⟩ : Addr).add j) = some u := by
  intro j u hu
  obtain ⟨i, x, k, h1, h2, rfl⟩ := flat_at hs xs j u hu
  have hadd : (⟨b, o, none⟩ : Addr).add (i * s + k) = ⟨b, o + (i * s + k), none⟩ := by unfold Addr.add; split <;> simp_all
  rw [hadd, ← Nat.add_assoc]
  exact hx i x h1 k u h2
theorem Rw_cells_later {α : Type} {s : Nat} {c : α → List Value} {w w' : World} {b o : Nat} {xs : List α} (hx : ∀ j x, xs[j]? = some x → ∀ k u, (c x)[k]? = some u → w.cell? ⟨b, o + j * s + k, none⟩ = some u) (hb : b < w.heap.size) (k : Bl w w') :
    ∀ j x, xs[j]? = some x → ∀ k u, (c x)[k]? = some u → w'.cell? ⟨b, o + j * s + k, none⟩ = some u := fun j x hj i u hu => (bl_cell k _ _ hb).trans (hx j x hj i u hu)
/-- It lies at or beyond n, if anywhere. -/
def Fresh (n : Nat) (v : Value) : Prop := ∀ g, v.ownBlock = some g → n ≤ g
theorem Rw.set {α : Type} {s : Nat} {c : α → List Value} {w : World} {v : Value} {xs : List α} (h : Rw s c w v xs) {p : Addr} (u : Value) (hf : Fresh (p.block + 1) v) : Rw s c (w.setCell p u) v xs := by
  rcases h with h | ⟨b, o, cap, rfl, hc, hb, hx⟩
  · exact .inl h
  · have hne : p.block + 1 ≤ b := hf b rfl
    have hk : (w.setCell p u).heap[b]? = w.heap[b]? := Below.heap_setCell _ _ _ b (by omega)
    exact .inr ⟨b, o, cap, rfl, hc, by simpa using hb, fun j x hj k v hv => (World.cell?_of_block (a := ⟨b, o + j * s + k, none⟩) hk).trans (hx j x hj k v hv)⟩
/-- A slice's row, its address open. -/
theorem Rw.cut {α : Type} {s : Nat} {c : α → List Value} {w : World} {v : Value} {xs : List α} (h : Rw s c w v xs) :
    ∃ p cap, v = .slice p xs.length cap ∧ xs.length ≤ cap ∧ ∀ m, m ≤ xs.length → Rw s c w (.slice p m cap) (xs.take m) := by
  rcases h with ⟨rfl, rfl⟩ | ⟨b, o, cap, rfl, hc, hb, hx⟩
  · exact ⟨none, 0, rfl, Nat.le_refl _, fun m hm => by
      have hm0 : m = 0 := by simpa using hm
      subst hm0
      exact .inl ⟨rfl, rfl⟩⟩
  · refine ⟨some ⟨b, o, none⟩, cap, rfl, hc, fun m hm => .inr ⟨b, o, cap, by simp [hm], by simp; omega, hb, fun j x hj k u hu => hx j x ?_ k u hu⟩⟩
    rw [List.getElem?_take] at hj
    split at hj
    · exact hj
    · cases hj
/-- The boxes of two slices. -/
structure TwoS (w W : World) (va vb : Value) (t : TypeId) : Prop where
  eq : W = (w.alloc (.cells #[va] t)).alloc (.cells #[vb] t)
  bl : Bl w W
  size : W.heap.size = w.heap.size + 1 + 1
  k : ∀ u, Bl W u → u.cell? ⟨w.heap.size, 0, none⟩ = some va ∧ u.cell? ⟨w.heap.size + 1, 0, none⟩ = some vb ∧ u.frozen? ⟨w.heap.size, 0, none⟩ = false ∧ u.frozen? ⟨w.heap.size + 1, 0, none⟩ = false
theorem twoS_ex (w : World) (va vb : Value) (t : TypeId) : ∃ W, TwoS w W va vb t := by
  refine ⟨_, rfl, ((Bl.refl _).alloc _).alloc _, by simp, fun u hu => ⟨?_, ?_, ?_, ?_⟩⟩
  · rw [bl_cell hu _ _ (by simp; omega)]; simp [go_sem]
  · rw [bl_cell hu _ _ (by simp)]; simp [go_sem]
  · rw [bl_froz hu _ _ (by simp; omega)]; simp [go_sem]
  · rw [bl_froz hu _ _ (by simp)]; simp [go_sem]
/-- Of what lies from lo up to hi nothing has turned. -/
structure Span (lo hi : Nat) (w w' : World) : Prop where
  size : w.heap.size ≤ w'.heap.size
  block : ∀ k, lo ≤ k → k < hi → w'.heap[k]? = w.heap[k]?
theorem Span.refl (lo hi : Nat) (w : World) : Span lo hi w w := ⟨Nat.le_refl _, fun _ _ _ => rfl⟩
theorem Span.trans {lo hi : Nat} {a b c : World} (h : Span lo hi a b) (k : Span lo hi b c) : Span lo hi a c := ⟨Nat.le_trans h.size k.size, fun i h1 h2 => (k.block i h1 h2).trans (h.block i h1 h2)⟩
theorem Bl.span {lo hi : Nat} {w w' : World} (h : Bl w w') (hh : hi ≤ w.heap.size) : Span lo hi w w' := ⟨Below.size h, fun k _ h2 => Below.block h k (by omega)⟩
theorem Span.cell {lo hi : Nat} {w w' : World} (h : Span lo hi w w') (b o : Nat) (h1 : lo ≤ b) (h2 : b < hi) : w'.cell? ⟨b, o, none⟩ = w.cell? ⟨b, o, none⟩ := World.cell?_of_block (a := ⟨b, o, none⟩) (h.block b h1 h2)
/-- Two rows of one length, in the variables that an iterator over their pairs has captured: all of it lies from lo up to hi. -/
def PairsIn {α : Type} (s : Nat) (c : α → List Value) (w : World) (lo hi A B : Nat) (xs ys : List α) : Prop :=
  ∃ u v, lo ≤ A ∧ A < hi ∧ lo ≤ B ∧ B < hi ∧ w.cell? ⟨A, 0, none⟩ = some u ∧ w.cell? ⟨B, 0, none⟩ = some v ∧ Rw s c w u xs ∧ Rw s c w v ys ∧ (∀ g, u.ownBlock = some g → lo ≤ g ∧ g < hi) ∧ (∀ g, v.ownBlock = some g → lo ≤ g ∧ g < hi) ∧ xs.length = ys.length
theorem Rw.span {α : Type} {s : Nat} {c : α → List Value} {w w' : World} {v : Value} {xs : List α} {lo hi : Nat} (h : Rw s c w v xs) (hf : ∀ g, v.ownBlock = some g → lo ≤ g ∧ g < hi) (k : Span lo hi w w') : Rw s c w' v xs := by
  rcases h with h | ⟨b, o, cap, rfl, hc, hb, hx⟩
  · exact .inl h
  · have hne := hf b rfl
    exact .inr ⟨b, o, cap, rfl, hc, Nat.lt_of_lt_of_le hb k.size, fun j x hj i v hv => (k.cell b _ hne.1 hne.2).trans (hx j x hj i v hv)⟩
theorem PairsIn.later {α : Type} {s : Nat} {c : α → List Value} {w w' : World} {lo hi A B : Nat} {xs ys : List α} (h : PairsIn s c w lo hi A B xs ys) (k : Span lo hi w w') : PairsIn s c w' lo hi A B xs ys := by
  obtain ⟨u, v, a1, a2, b1, b2, cu, cv, ru, rv, fu, fv, hl⟩ := h
  exact ⟨u, v, a1, a2, b1, b2, (k.cell _ _ a1 a2).trans cu, (k.cell _ _ b1 b2).trans cv, ru.span fu k, rv.span fv k, fu, fv, hl⟩
theorem Rw.lt {α : Type} {s : Nat} {c : α → List Value} {w : World} {v : Value} {xs : List α} (h : Rw s c w v xs) : ∀ g, v.ownBlock = some g → g < w.heap.size := by
  rcases h with ⟨rfl, rfl⟩ | ⟨b, o, cap, rfl, hc, hb, hx⟩
  · nofun
  · intro g hg; cases hg; exact hb
theorem flat_one {α : Type} {c : α → List Value} (h1 : ∀ x, ∀ u ∈ c x, u.oneCell' = true) (xs : List α) : ∀ u ∈ xs.flatMap c, u.oneCell' = true := by
  intro u hu
  obtain ⟨x, _, hx⟩ := List.mem_flatMap.1 hu
  exact h1 x u hx
/-- A slice of numbers that came in: as Rw, and of none that is read its address may be whatever it is. -/
def Rq {α : Type} (s : Nat) (c : α → List Value) (w : World) (v : Value) (xs : List α) : Prop :=
  (∃ p cap, v = .slice p 0 cap ∧ xs = [] ∧ (p = none → cap = 0)) ∨ ∃ b o cap, v = .slice (some ⟨b, o, none⟩) xs.length cap ∧ xs.length ≤ cap ∧ b < w.heap.size ∧
    ∀ j x, xs[j]? = some x → ∀ k u, (c x)[k]? = some u → w.cell? ⟨b, o + j * s + k, none⟩ = some u
theorem Rw.q {α : Type} {s : Nat} {c : α → List Value} {w : World} {v : Value} {xs : List α} (h : Rw s c w v xs) : Rq s c w v xs := by
  rcases h with ⟨rfl, rfl⟩ | h
  · exact .inl ⟨none, 0, rfl, rfl, fun _ => rfl⟩
  · exact .inr h
theorem Rq.later {α : Type} {s : Nat} {c : α → List Value} {w w' : World} {v : Value} {xs : List α} (h : Rq s c w v xs) (k : Bl w w') : Rq s c w' v xs := by
  rcases h with h | ⟨b, o, cap, e, hc, hb, hx⟩
  · exact .inl h
  · exact .inr ⟨b, o, cap, e, hc, Nat.lt_of_lt_of_le hb (Below.size k), fun j x hj i u hu => (bl_cell k _ _ hb).trans (hx j x hj i u hu)⟩
/-- Its first ones. -/
theorem Rq.cut {α : Type} {s : Nat} {c : α → List Value} {w : World} {v : Value} {xs : List α} (h : Rq s c w v xs) :
    ∃ p cap, v = .slice p xs.length cap ∧ xs.length ≤ cap ∧ ∀ m, m ≤ xs.length → Rq s c w (.slice p m cap) (xs.take m) := by
  rcases h with ⟨p, cap, rfl, rfl, hp⟩ | ⟨b, o, cap, rfl, hc, hb, hx⟩
  · exact ⟨p, cap, rfl, Nat.zero_le _, fun m hm => by
      have hm0 : m = 0 := by simpa using hm
      subst hm0
      exact .inl ⟨p, cap, rfl, rfl, hp⟩⟩
  · refine ⟨some ⟨b, o, none⟩, cap, rfl, hc, fun m hm => .inr ⟨b, o, cap, by simp [hm], by simp; omega, hb, fun j x hj k u hu => hx j x ?_ k u hu⟩⟩
    rw [List.getElem?_take] at hj
    split at hj
    · exact hj
    · cases hj
end Go.Proofs.YtljmggemdkfbiaaGreat
