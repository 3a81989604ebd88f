/- What is done of all pairs of two rows: what holds whatever their numbers (layer 5). -/
import Derived.Test.YtfbioinmgchdcaaMid
import Derived.Deep.RegionHeld3
import Derived.RangeFuncNested
import Derived.Maps.OwnIn
import Derived.RangeFuncBound
import Derived.RangeFuncCalls
import Derived.RangeFuncLeaves
/- Rows of numbers of any kind in memory (layer 5). -/
namespace Go.Proofs.Ytfbioinmgchdcaa
open Go.RowKit
set_option linter.unusedSimpArgs false
set_option linter.unusedVariables false

/-- A slice of numbers of s cells each, which are told by c. -/
def Rw {α : Type} (s : Nat) (c : α → List Value) (w : World) (v : Value) (xs : List α) : Prop :=
  (v = .slice none 0 0 ∧ xs = []) ∨ ∃ b o cap, v = .slice (some ⟨b, o, none⟩) xs.length cap ∧ xs.length ≤ cap ∧ b < w.heap.size ∧
    ∀ j x, xs[j]? = some x → ∀ k u, (c x)[k]? = some u → w.cell? ⟨b, o + j * s + k, none⟩ = some u
theorem Rw.later {α : Type} {s : Nat} {c : α → List Value} {w w' : World} {v : Value} {xs : List α} (h : Rw s c w v xs) (k : Bl w w') : Rw s c w' v xs := by
  rcases h with h | ⟨b, o, cap, e, hc, hb, hx⟩
  · exact .inl h
  · exact .inr ⟨b, o, cap, e, hc, Nat.lt_of_lt_of_le hb (Below.size k), fun j x hj i u hu => (bl_cell k _ _ hb).trans (hx j x hj i u hu)⟩
/-- What has been appended, as a row. -/
theorem Rw.of_own {α : Type} {s : Nat} {c : α → List Value} (hs : ∀ x, (c x).length = s) {w : World} {B : Nat} {e : TypeId} {v : Value} {xs : List α}
    (h : w.ownsRow B e s v xs.length (xs.flatMap c)) : Rw s c w v xs := by
  have hlt := h.lt
  have hc : ∀ g, v.ownBlock = some g → ∀ j u, (xs.flatMap c)[j]? = some u → w.cell? ((⟨g, 0, none⟩ : Addr).add j) = some u := fun g hg => h.cells hg
  rcases h.2 with ⟨rfl, e0⟩ | ⟨g, cap, cur, rfl, hb, _, hn, hm, hz, ht⟩
  · exact .inl ⟨rfl, List.eq_nil_of_length_eq_zero e0⟩
  · refine .inr ⟨g, 0, cap, rfl, hn, (hlt g rfl).2, fun j x hj k u hu => ?_⟩
    have hf : (xs.flatMap c)[j * s + k]? = some u := by
      clear hlt hc ht hz hm hn hb h
      induction xs generalizing j with
      | nil => simp at hj
      | cons y ys ih =>
        rw [List.flatMap_cons]
        cases j with
        | zero =>
          simp at hj
          subst hj
          rw [Nat.zero_mul, Nat.zero_add, List.getElem?_append_left (by have := (List.getElem?_eq_some_iff.1 hu).1; omega)]
          exact hu
        | succ j =>
          rw [List.getElem?_append_right (by rw [hs, Nat.add_mul]; omega), hs]
          have := ih j (by simpa using hj)
          rw [show (j + 1) * s + k - s = j * s + k by rw [Nat.add_mul]; omega]
          exact this
    have := hc g rfl _ u hf
    have hadd : (⟨g, 0, none⟩ : Addr).add (j * s + k) = ⟨g, j * s + k, none⟩ := by unfold Addr.add; split <;> simp_all
    rw [hadd] at this
    simpa using this
/-- Where a cell of all cells stands. -/
theorem flat_at {α : Type} {s : Nat} {c : α → List Value} (hs : ∀ x, (c x).length = s) (xs : List α) (j : Nat) (u : Value) (h : (xs.flatMap c)[j]? = some u) : ∃ i x k, xs[i]? = some x ∧ (c x)[k]? = some u ∧ j = i * s + k := by
  induction xs generalizing j with
  | nil => simp at h
  | cons y ys ih =>
    rw [List.flatMap_cons] at h
    by_cases hj : j < s
    · rw [List.getElem?_append_left (by rw [hs]; exact hj)] at h
      exact ⟨0, y, j, by simp, h, by simp⟩
    · rw [List.getElem?_append_right (by rw [hs]; omega), hs] at h
      obtain ⟨i, x, k, h1, h2, h3⟩ := ih _ h
      exact ⟨i + 1, x, k, by simpa using h1, h2, by rw [Nat.add_mul]; omega⟩
theorem flat_len {α : Type} {s : Nat} {c : α → List Value} (hs : ∀ x, (c x).length = s) (xs : List α) : (xs.flatMap c).length = xs.length * s := by
  induction xs with
  | nil => simp
  | cons y ys ih => rw [List.flatMap_cons, List.length_append, ih, hs, List.length_cons, Nat.add_mul]; omega
theorem flat_cells {α : Type} {s : Nat} {c : α → List Value} (hs : ∀ x, (c x).length = s) {w : World} {b o : Nat} {xs : List α}
    (hx : ∀ j x, xs[j]? = some x → ∀ k u, (c x)[k]? = some u → w.cell? ⟨b, o + j * s + k, none⟩ = some u) : ∀ j u, (xs.flatMap c)[j]? = some u → w.cell? ((⟨b, o, none⟩ : Addr).add j) = some u := by
  intro j u hu
  obtain ⟨i, x, k, h1, h2, rfl⟩ := flat_at hs xs j u hu
  have hadd : (⟨b, o, none⟩ : Addr).add (i * s + k) = ⟨b, o + (i * s + k), none⟩ := by unfold Addr.add; split <;> simp_all
  rw [hadd, ← Nat.add_assoc]
  exact hx i x h1 k u h2
theorem Rw_cells_later {α : Type} {s : Nat} {c : α → List Value} {w w' : World} {b o : Nat} {xs : List α} (hx : ∀ j x, xs[j]? = some x → ∀ k u, (c x)[k]? = some u → w.cell? ⟨b, o + j * s + k, none⟩ = some u) (hb : b < w.heap.size) (k : Bl w w') :
    ∀ j x, xs[j]? = some x → ∀ k u, (c x)[k]? = some u → w'.cell? ⟨b, o + j * s + k, none⟩ = some u := fun j x hj i u hu => (bl_cell k _ _ hb).trans (hx j x hj i u hu)
/-- It lies at or beyond n, if anywhere. -/
def Fresh (n : Nat) (v : Value) : Prop := ∀ g, v.ownBlock = some g → n ≤ g
theorem Rw.set {α : Type} {s : Nat} {c : α → List Value} {w : World} {v : Value} {xs : List α} (h : Rw s c w v xs) {p : Addr} (u : Value) (hf : Fresh (p.block + 1) v) : Rw s c (w.setCell p u) v xs := by
  rcases h with h | ⟨b, o, cap, rfl, hc, hb, hx⟩
  · exact .inl h
  · have hne : p.block + 1 ≤ b := hf b rfl
    have hk : (w.setCell p u).heap[b]? = w.heap[b]? := Below.heap_setCell _ _ _ b (by omega)
    exact .inr ⟨b, o, cap, rfl, hc, by simpa using hb, fun j x hj k v hv => (World.cell?_of_block (a := ⟨b, o + j * s + k, none⟩) hk).trans (hx j x hj k v hv)⟩
/-- A slice's row, its address open. -/
theorem Rw.cut {α : Type} {s : Nat} {c : α → List Value} {w : World} {v : Value} {xs : List α} (h : Rw s c w v xs) :
    ∃ p cap, v = .slice p xs.length cap ∧ xs.length ≤ cap ∧ ∀ m, m ≤ xs.length → Rw s c w (.slice p m cap) (xs.take m) := by
  rcases h with ⟨rfl, rfl⟩ | ⟨b, o, cap, rfl, hc, hb, hx⟩
  · exact ⟨none, 0, rfl, Nat.le_refl _, fun m hm => by
      have hm0 : m = 0 := by simpa using hm
      subst hm0
      exact .inl ⟨rfl, rfl⟩⟩
  · refine ⟨some ⟨b, o, none⟩, cap, rfl, hc, fun m hm => .inr ⟨b, o, cap, by simp [hm], by simp; omega, hb, fun j x hj k u hu => hx j x ?_ k u hu⟩⟩
    rw [List.getElem?_take] at hj
    split at hj
    · exact hj
    · cases hj
/-- The boxes of two slices. -/
structure TwoS (w W : World) (va vb : Value) (t : TypeId) : Prop where
  eq : W = (w.alloc (.cells #[va] t)).alloc (.cells #[vb] t)
  bl : Bl w W
  size : W.heap.size = w.heap.size + 1 + 1
  k : ∀ u, Bl W u → u.cell? ⟨w.heap.size, 0, none⟩ = some va ∧ u.cell? ⟨w.heap.size + 1, 0, none⟩ = some vb ∧ u.frozen? ⟨w.heap.size, 0, none⟩ = false ∧ u.frozen? ⟨w.heap.size + 1, 0, none⟩ = false
theorem twoS_ex (w : World) (va vb : Value) (t : TypeId) : ∃ W, TwoS w W va vb t := by
  refine ⟨_, rfl, ((Bl.refl _).alloc _).alloc _, by simp, fun u hu => ⟨?_, ?_, ?_, ?_⟩⟩
  · rw [bl_cell hu _ _ (by simp; omega)]; simp [go_sem]
  · rw [bl_cell hu _ _ (by simp)]; simp [go_sem]
  · rw [bl_froz hu _ _ (by simp; omega)]; simp [go_sem]
  · rw [bl_froz hu _ _ (by simp)]; simp [go_sem]
/-- Of what lies from lo up to hi nothing has turned. -/
structure Span (lo hi : Nat) (w w' : World) : Prop where
  size : w.heap.size ≤ w'.heap.size
  block : ∀ k, lo ≤ k → k < hi → w'.heap[k]? = w.heap[k]?
theorem Span.refl (lo hi : Nat) (w : World) : Span lo hi w w := ⟨Nat.le_refl _, fun _ _ _ => rfl⟩
theorem Span.trans {lo hi : Nat} {a b c : World} (h : Span lo hi a b) (k : Span lo hi b c) : Span lo hi a c := ⟨Nat.le_trans h.size k.size, fun i h1 h2 => (k.block i h1 h2).trans (h.block i h1 h2)⟩
theorem Bl.span {lo hi : Nat} {w w' : World} (h : Bl w w') (hh : hi ≤ w.heap.size) : Span lo hi w w' := ⟨Below.size h, fun k _ h2 => Below.block h k (by omega)⟩
theorem Span.cell {lo hi : Nat} {w w' : World} (h : Span lo hi w w') (b o : Nat) (h1 : lo ≤ b) (h2 : b < hi) : w'.cell? ⟨b, o, none⟩ = w.cell? ⟨b, o, none⟩ := World.cell?_of_block (a := ⟨b, o, none⟩) (h.block b h1 h2)
/-- Two rows of one length, in the variables that an iterator over their pairs has captured: all of it lies from lo up to hi. -/
def PairsIn {α : Type} (s : Nat) (c : α → List Value) (w : World) (lo hi A B : Nat) (xs ys : List α) : Prop :=
  ∃ u v, lo ≤ A ∧ A < hi ∧ lo ≤ B ∧ B < hi ∧ w.cell? ⟨A, 0, none⟩ = some u ∧ w.cell? ⟨B, 0, none⟩ = some v ∧ Rw s c w u xs ∧ Rw s c w v ys ∧ (∀ g, u.ownBlock = some g → lo ≤ g ∧ g < hi) ∧ (∀ g, v.ownBlock = some g → lo ≤ g ∧ g < hi) ∧ xs.length = ys.length
theorem Rw.span {α : Type} {s : Nat} {c : α → List Value} {w w' : World} {v : Value} {xs : List α} {lo hi : Nat} (h : Rw s c w v xs) (hf : ∀ g, v.ownBlock = some g → lo ≤ g ∧ g < hi) (k : Span lo hi w w') : Rw s c w' v xs := by
  rcases h with h | ⟨b, o, cap, rfl, hc, hb, hx⟩
  · exact .inl h
  · have hne := hf b rfl
    exact .inr ⟨b, o, cap, rfl, hc, Nat.lt_of_lt_of_le hb k.size, fun j x hj i v hv => (k.cell b _ hne.1 hne.2).trans (hx j x hj i v hv)⟩
theorem PairsIn.later {α : Type} {s : Nat} {c : α → List Value} {w w' : World} {lo hi A B : Nat} {xs ys : List α} (h : PairsIn s c w lo hi A B xs ys) (k : Span lo hi w w') : PairsIn s c w' lo hi A B xs ys := by
  obtain ⟨u, v, a1, a2, b1, b2, cu, cv, ru, rv, fu, fv, hl⟩ := h
  exact ⟨u, v, a1, a2, b1, b2, (k.cell _ _ a1 a2).trans cu, (k.cell _ _ b1 b2).trans cv, ru.span fu k, rv.span fv k, fu, fv, hl⟩
theorem Rw.lt {α : Type} {s : Nat} {c : α → List Value} {w : World} {v : Value} {xs : List α} (h : Rw s c w v xs) : ∀ g, v.ownBlock = some g → g < w.heap.size := by
  rcases h with ⟨rfl, rfl⟩ | ⟨b, o, cap, rfl, hc, hb, hx⟩
  · nofun
  · intro g hg; cases hg; exact hb
theorem flat_one {α : Type} {c : α → List Value} (h1 : ∀ x, ∀ u ∈ c x, u.oneCell' = true) (xs : List α) : ∀ u ∈ xs.flatMap c, u.oneCell' = true := by
  intro u hu
  obtain ⟨x, _, hx⟩ := List.mem_flatMap.1 hu
  exact h1 x u hx
/-- A slice of numbers that came in: as Rw, and of none that is read its address may be whatever it is. -/
def Rq {α : Type} (s : Nat) (c : α → List Value) (w : World) (v : Value) (xs : List α) : Prop :=
  (∃ p cap, v = .slice p 0 cap ∧ xs = [] ∧ (p = none → cap = 0)) ∨ ∃ b o cap, v = .slice (some ⟨b, o, none⟩) xs.length cap ∧ xs.length ≤ cap ∧ b < w.heap.size ∧
    ∀ j x, xs[j]? = some x → ∀ k u, (c x)[k]? = some u → w.cell? ⟨b, o + j * s + k, none⟩ = some u
theorem Rw.q {α : Type} {s : Nat} {c : α → List Value} {w : World} {v : Value} {xs : List α} (h : Rw s c w v xs) : Rq s c w v xs := by
  rcases h with ⟨rfl, rfl⟩ | h
  · exact .inl ⟨none, 0, rfl, rfl, fun _ => rfl⟩
  · exact .inr h
theorem Rq.later {α : Type} {s : Nat} {c : α → List Value} {w w' : World} {v : Value} {xs : List α} (h : Rq s c w v xs) (k : Bl w w') : Rq s c w' v xs := by
  rcases h with h | ⟨b, o, cap, e, hc, hb, hx⟩
  · exact .inl h
  · exact .inr ⟨b, o, cap, e, hc, Nat.lt_of_lt_of_le hb (Below.size k), fun j x hj i u hu => (bl_cell k _ _ hb).trans (hx j x hj i u hu)⟩
/-- Its first ones. -/
theorem Rq.cut {α : Type} {s : Nat} {c : α → List Value} {w : World} {v : Value} {xs : List α} (h : Rq s c w v xs) :
    ∃ p cap, v = .slice p xs.length cap ∧ xs.length ≤ cap ∧ ∀ m, m ≤ xs.length → Rq s c w (.slice p m cap) (xs.take m) := by
  rcases h with ⟨p, cap, rfl, rfl, hp⟩ | ⟨b, o, cap, rfl, hc, hb, hx⟩
  · exact ⟨p, cap, rfl, Nat.zero_le _, fun m hm => by
      have hm0 : m = 0 := by simpa using hm
      subst hm0
      exact .inl ⟨p, cap, rfl, rfl, hp⟩⟩
  · refine ⟨some ⟨b, o, none⟩, cap, rfl, hc, fun m hm => .inr ⟨b, o, cap, by simp [hm], by simp; omega, hb, fun j x hj k u hu => hx j x ?_ k u hu⟩⟩
    rw [List.getElem?_take] at hj
    split at hj
    · exact hj
    · cases hj
end Go.Proofs.Ytfbioinmgchdcaa

/- A stretch of a region that draws its order, inside a fence, by what holds between its operations, whatever their order; an append as one of its operations. -/
namespace Go.Proofs.Ytfbioinmgchdcaa
open Go.RowKit
set_option linter.unusedSimpArgs false
set_option linter.unusedVariables false

/-- k operations are to come in this stretch: I holds between them. -/
theorem wpAnyIn_phase {F : Fence} {n : Nat} {P : Program} {md : Region.Mode} {ops : Array Oper} {Q : Exit → Act → World → Prop} {fuel : Nat} (I : Nat → Array Bool → Act → World → Prop)
    (fin : ∀ l a w, I 0 l a w → wpAnyIn F n P md ops Q fuel l a w)
    (live : ∀ k l a w, I (k + 1) l a w → Region.ready md ops l = [] → False)
    (step : ∀ k l a w i, I (k + 1) l a w → l.getD i true = false → (∀ e, (∃ o, ops[i]? = some o ∧ e ∈ o.after) → Region.binds md e = true → l.getD e.on false = true) → wpOpIn F n P ops Q i (fun a' w' => I k (l.setIfInBounds i true) a' w') a w) :
    ∀ (k : Nat) (l : Array Bool) (a : Act) (w : World), I k l a w → wpAnyIn F n P md ops Q (fuel + k) l a w
  | 0, l, a, w, h => fin l a w h
  | k + 1, l, a, w, h => ⟨fun h0 => (live k l a w h h0).elim, fun i hi => by
      obtain ⟨h1, o, ho, hall⟩ := mem_ready.1 hi
      refine wpOpIn_mono (fun a' w' h' => wpAnyIn_phase I fin live step k _ a' w' h') (step k l a w i h h1 (fun e ⟨o', ho', he⟩ hb => ?_))
      rw [ho] at ho'
      cases ho'
      exact hall e he hb⟩
/-- An append, as one operation. -/
theorem stepIn_append {F : Fence} {nF : Nat} {P : Program} {o : Oper} {a : Act} {w : World} {K : Act → World → Prop} {Q : Exit → Act → World → Prop} (s x : Operand) (t : TypeId)
    (ho : o.op = .call { callee := .builtin .append, args := #[s, x], argTypes := #[t, t] })
    (base : Nat) (e : TypeId) (i : TypeInfo) (z : Value) (size bytes : Nat) (ht : P.underlying t = some (.slice e)) (hi : P.info? e = some i) (hz : i.zero = some z)
    (hsize : i.size = size) (hby : i.bytes = bytes) (hzs : z.cells.size = size) (hsz : 0 < size)
    (v : Value) (n : Nat) (xs : List Value) (hs : a.eval s = v) (hown : w.ownsRow base e size v n xs)
    (ad : Addr) (m c : Nat) (news : List Value) (hx : a.eval x = .slice (some ad) m c) (hl : news.length = m * size) (hnews : ∀ j u, news[j]? = some u → w.cell? (ad.add j) = some u) (h1 : ∀ u ∈ news, u.oneCell' = true)
    (h63 : n + m ≤ maxLen) (hbytes : (n + m) * bytes ≤ 140737488355328) (hbase : base ≤ w.heap.size)
    (h : ∀ v' w', w'.ownsRow base e size v' (n + m) (xs ++ news) → w.grownBy w' v.ownBlock → (v'.ownBlock = v.ownBlock ∨ v'.ownBlock = some w.heap.size) → K (a.put o.dst v') w') :
    Oper.wpIn F nF P o a w K Q := by
  obtain ⟨v', w', hr, h2, h3, h4, h5⟩ := run_append_own_at (P := P) w base t o.type e i z size bytes ht hi hz hsize hby hzs hsz v n xs hown ad m c news hl hnews h1 h63 hbytes hbase
  unfold Oper.wpIn
  refine ⟨by simp [Oper.about, ho, resolve, Target.leads, Sem.run_pure], ?_⟩
  rw [Oper.semAt_plain F _ _ (by rw [ho]; intro c hc'; cases hc')]
  simp [execOp, ho, resolve, invoke, builtin, hs, hx, hr, Result.andThen]
  exact h v' w' h2 h3 h5
/-- One more to come. -/
def one' (b : Bool) : Nat := if b then 0 else 1
theorem getD_lt' {l : Array Bool} {i : Nat} (h : l.getD i true = false) : i < l.size := by
  rcases Nat.lt_or_ge i l.size with h' | h'
  · exact h'
  · simp [Array.getD, Nat.not_lt.2 h'] at h
end Go.Proofs.Ytfbioinmgchdcaa

/- What is done of all pairs of two rows: what holds whatever their numbers (layer 5). -/
namespace Go.Proofs.Ytfbioinmgchdcaa
open Go.RowKit
set_option linter.unusedSimpArgs false
set_option linter.unusedVariables false

/-- What is done of all pairs. -/
def opL {α : Type} (op : α → α → α) (pre : List (α × α)) : List α := pre.map fun p => op p.1 p.2
theorem opL_snoc {α : Type} (op : α → α → α) (pre : List (α × α)) (x : α × α) : opL op (pre ++ [x]) = opL op pre ++ [op x.1 x.2] := by simp [opL]
theorem opL_zip {α : Type} (op : α → α → α) (xs ys : List α) (m : Nat) (h : m = min xs.length ys.length) : opL op ((xs.take m).zip (ys.take m)) = List.zipWith op xs ys := by
  subst h
  induction xs generalizing ys with
  | nil => simp [opL]
  | cons x xs ih =>
    cases ys with
    | nil => simp [opL]
    | cons y ys =>
      have := ih ys
      simp only [opL, List.length_cons] at this ⊢
      rw [show min (xs.length + 1) (ys.length + 1) = min xs.length ys.length + 1 by omega]
      simp [List.take_succ_cons, this]
theorem boxed_bl {w w' : World} {B : Nat} {t : TypeId} {v : Value} (h : Boxed w B t v) (k : Bl w w') : Boxed w' B t v := (Below.block k B h.lt).trans h
theorem span_b {lo hi : Nat} {w : World} (hh : hi ≤ w.heap.size) (W : World) (l : Nat) (o o' : Obj) (hl : w.heap.size ≤ l) (h : W.heap[l]? = some o) (_ : o.isCells = false) (_ : o.isWalk = false) : Span lo hi W (W.putObj l o') :=
  ⟨by simp [World.putObj], fun k _ h2 => World.putObj_heap_other (by omega)⟩
theorem Bl.keeps {w w' : World} (B : Nat) (h : Bl w w') : KeepsFrom B w w' := by
  refine ⟨h.size, fun k o h1 h2 h3 => ?_⟩
  exact (Below.block h k (Array.getElem?_eq_some_iff.1 h2).1).trans h2
/-- Behind an append to a row that a variable holds, and the store of what comes of it. -/
theorem boxed_appended {u w5 : World} {n₀ B : Nat} {t e : TypeId} {size : Nat} {v v' : Value} {k m : Nat} {xs ys : List Value}
    (hv : Boxed u B t v) (hte : t ≠ e) (hrow : u.ownsRow n₀ e size v k xs) (hn₀ : n₀ ≤ u.heap.size) (hB : n₀ ≤ B)
    (hown' : w5.ownsRow n₀ e size v' m ys) (hgrow : u.grownBy w5 v.ownBlock) :
    Boxed w5 B t v ∧ Boxed (w5.setCell ⟨B, 0, none⟩ v') B t v' ∧ (w5.setCell ⟨B, 0, none⟩ v').ownsRow n₀ e size v' m ys ∧ KeepsOthers u (w5.setCell ⟨B, 0, none⟩ v') ∧ Below n₀ u (w5.setCell ⟨B, 0, none⟩ v') := by
  have hv1 : Boxed w5 B t v := hv.kept hgrow (hv.not_row hte hrow)
  refine ⟨hv1, hv1.set v', hown'.kept (grownBy_setCell' w5 B v') (.inr (hv1.not_row hte hown').symm), ?_, ?_⟩
  · refine (KeepsOthers.of_grownBy hgrow fun j o ej hj => ?_).trans (KeepsOthers.setCell _ _ _)
    rcases hrow.2 with ⟨rfl, _⟩ | ⟨g, cap, cur, rfl, _, hgb, _⟩
    · simp [Value.ownBlock] at ej
    · obtain rfl : g = j := by simpa [Value.ownBlock] using ej
      rw [hgb] at hj; cases hj; rfl
  · exact ((Below.refl n₀ u).grown hgrow hn₀ (fun j ej => (hrow.lt j ej).1)).setCell (p := ⟨B, 0, none⟩) hB v'
/-- Of what lies elsewhere nothing has turned. -/
theorem span_appended {W u w5 : World} {lo hi R : Nat} {v v' : Value} (hB : Bl W u) (hh : hi ≤ W.heap.size) (hg : ∀ g, v.ownBlock = some g → g < lo ∨ hi ≤ g) (hgrow : u.grownBy w5 v.ownBlock) (hR : R < lo) : Span lo hi W (w5.setCell ⟨R, 0, none⟩ v') := by
  refine ⟨by have := hB.size; have := hgrow.size; simp; omega, fun k h1 h2 => ?_⟩
  have e1 : (w5.setCell ⟨R, 0, none⟩ v').heap[k]? = w5.heap[k]? := Below.heap_setCell _ _ _ k (by show k ≠ R; omega)
  have e2 : w5.heap[k]? = u.heap[k]? := hgrow.block k (by have := hB.size; omega) (fun e => by rcases hg k e.symm with h | h <;> omega)
  exact (e1.trans e2).trans (Below.block hB k (by omega))
end Go.Proofs.Ytfbioinmgchdcaa
