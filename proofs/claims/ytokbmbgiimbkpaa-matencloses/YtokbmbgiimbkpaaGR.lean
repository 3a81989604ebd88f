/- A region that draws its order, inside a fence: by what holds once each operation has come up, whatever their order, over any frame; its operations, one by one. -/
import Derived.Test.YtokbmbgiimbkpaaMid
import Derived.Deep.RegionHeld3
import Derived.RangeFuncNested
import Derived.Maps.OwnIn
import Derived.RangeFuncBound
import Derived.RangeFuncCalls
import Derived.RangeFuncLeaves
/- Rows of numbers of any kind in memory (layer 5). -/
namespace Go.Proofs.Ytokbmbgiimbkpaa
open Go.RowKit
set_option linter.unusedSimpArgs false
set_option linter.unusedVariables false

/-- A slice of numbers of s cells each, which are told by c. -/
def Rw {α : Type} (s : Nat) (c : α → List Value) (w : World) (v : Value) (xs : List α) : Prop :=
  (v = .slice none 0 0 ∧ xs = []) ∨ ∃ b o cap, v = .slice (some ⟨b, o, none⟩) xs.length cap ∧ xs.length ≤ cap ∧ b < w.heap.size ∧
    ∀ j x, xs[j]? = some x → ∀ k u, (c x)[k]? = some u → w.cell? ⟨b, o + j * s + k, none⟩ = some u
theorem Rw.later {α : Type} {s : Nat} {c : α → List Value} {w w' : World} {v : Value} {xs : List α} (h : Rw s c w v xs) (k : Bl w w') : Rw s c w' v xs := by
  rcases h with h | ⟨b, o, cap, e, hc, hb, hx⟩
  · exact .inl h
  · exact .inr ⟨b, o, cap, e, hc, Nat.lt_of_lt_of_le hb (Below.size k), fun j x hj i u hu => (bl_cell k _ _ hb).trans (hx j x hj i u hu)⟩
/-- What has been appended, as a row. -/
theorem Rw.of_own {α : Type} {s : Nat} {c : α → List Value} (hs : ∀ x, (c x).length = s) {w : World} {B : Nat} {e : TypeId} {v : Value} {xs : List α}
    (h : w.ownsRow B e s v xs.length (xs.flatMap c)) : Rw s c w v xs := by
  have hlt := h.lt
  have hc : ∀ g, v.ownBlock = some g → ∀ j u, (xs.flatMap c)[j]? = some u → w.cell? ((⟨g, 0, none⟩ : Addr).add j) = some u := fun g hg => h.cells hg
  rcases h.2 with ⟨rfl, e0⟩ | ⟨g, cap, cur, rfl, hb, _, hn, hm, hz, ht⟩
  · exact .inl ⟨rfl, List.eq_nil_of_length_eq_zero e0⟩
  · refine .inr ⟨g, 0, cap, rfl, hn, (hlt g rfl).2, fun j x hj k u hu => ?_⟩
    have hf : (xs.flatMap c)[j * s + k]? = some u := by
      clear hlt hc ht hz hm hn hb h
      induction xs generalizing j with
      | nil => simp at hj
      | cons y ys ih =>
        rw [List.flatMap_cons]
        cases j with
        | zero =>
          simp at hj
          subst hj
          rw [Nat.zero_mul, Nat.zero_add, List.getElem?_append_left (by have := (List.getElem?_eq_some_iff.1 hu).1; omega)]
          exact hu
        | succ j =>
          rw [List.getElem?_append_right (by rw [hs, Nat.add_mul]; omega), hs]
          have := ih j (by simpa using hj)
          rw [show (j + 1) * s + k - s = j * s + k by rw [Nat.add_mul]; omega]
          exact this
    have := hc g rfl _ u hf
    have hadd : (⟨g, 0, none⟩ : Addr).add (j * s + k) = ⟨g, j * s + k, none⟩ := by unfold Addr.add; split <;> simp_all
    rw [hadd] at this
    simpa using this
/-- Where a cell of all cells stands. -/
theorem flat_at {α : Type} {s : Nat} {c : α → List Value} (hs : ∀ x, (c x).length = s) (xs : List α) (j : Nat) (u : Value) (h : (xs.flatMap c)[j]? = some u) : ∃ i x k, xs[i]? = some x ∧ (c x)[k]? = some u ∧ j = i * s + k := by
  induction xs generalizing j with
  | nil => simp at h
  | cons y ys ih =>
    rw [List.flatMap_cons] at h
    by_cases hj : j < s
    · rw [List.getElem?_append_left (by rw [hs]; exact hj)] at h
      exact ⟨0, y, j, by simp, h, by simp⟩
    · rw [List.getElem?_append_right (by rw [hs]; omega), hs] at h
      obtain ⟨i, x, k, h1, h2, h3⟩ := ih _ h
      exact ⟨i + 1, x, k, by simpa using h1, h2, by rw [Nat.add_mul]; omega⟩
theorem flat_len {α : Type} {s : Nat} {c : α → List Value} (hs : ∀ x, (c x).length = s) (xs : List α) : (xs.flatMap c).length = xs.length * s := by
  induction xs with
  | nil => simp
  | cons y ys ih => rw [List.flatMap_cons, List.length_append, ih, hs, List.length_cons, Nat.add_mul]; omega
theorem flat_cells {α : Type} {s : Nat} {c : α → List Value} (hs : ∀ x, (c x).length = s) {w : World} {b o : Nat} {xs : List α}
    (hx : ∀ j x, xs[j]? = some x → ∀ k u, (c x)[k]? = some u → w.cell? ⟨b, o + j * s + k, none⟩ = some u) : ∀ j u, (xs.flatMap c)[j]? = some u → w.cell? ((⟨b, o, none⟩ : Addr).add j) = some u := by
  intro j u hu
  obtain ⟨i, x, k, h1, h2, rfl⟩ := flat_at hs xs j u hu
  have hadd : (⟨b, o, none⟩ : Addr).add (i * s + k) = ⟨b, o + (i * s + k), none⟩ := by unfold Addr.add; split <;> simp_all
  rw [hadd, ← Nat.add_assoc]
  exact hx i x h1 k u h2
theorem Rw_cells_later {α : Type} {s : Nat} {c : α → List Value} {w w' : World} {b o : Nat} {xs : List α} (hx : ∀ j x, xs[j]? = some x → ∀ k u, (c x)[k]? = some u → w.cell? ⟨b, o + j * s + k, none⟩ = some u) (hb : b < w.heap.size) (k : Bl w w') :
    ∀ j x, xs[j]? = some x → ∀ k u, (c x)[k]? = some u → w'.cell? ⟨b, o + j * s + k, none⟩ = some u := fun j x hj i u hu => (bl_cell k _ _ hb).trans (hx j x hj i u hu)
/-- It lies at or beyond n, if anywhere. -/
def Fresh (n : Nat) (v : Value) : Prop := ∀ g, v.ownBlock = some g → n ≤ g
theorem Rw.set {α : Type} {s : Nat} {c : α → List Value} {w : World} {v : Value} {xs : List α} (h : Rw s c w v xs) {p : Addr} (u : Value) (hf : Fresh (p.block + 1) v) : Rw s c (w.setCell p u) v xs := by
  rcases h with h | ⟨b, o, cap, rfl, hc, hb, hx⟩
  · exact .inl h
  · have hne : p.block + 1 ≤ b := hf b rfl
    have hk : (w.setCell p u).heap[b]? = w.heap[b]? := Below.heap_setCell _ _ _ b (by omega)
    exact .inr ⟨b, o, cap, rfl, hc, by simpa using hb, fun j x hj k v hv => (World.cell?_of_block (a := ⟨b, o + j * s + k, none⟩) hk).trans (hx j x hj k v hv)⟩
/-- A slice's row, its address open. -/
theorem Rw.cut {α : Type} {s : Nat} {c : α → List Value} {w : World} {v : Value} {xs : List α} (h : Rw s c w v xs) :
    ∃ p cap, v = .slice p xs.length cap ∧ xs.length ≤ cap ∧ ∀ m, m ≤ xs.length → Rw s c w (.slice p m cap) (xs.take m) := by
  rcases h with ⟨rfl, rfl⟩ | ⟨b, o, cap, rfl, hc, hb, hx⟩
  · exact ⟨none, 0, rfl, Nat.le_refl _, fun m hm => by
      have hm0 : m = 0 := by simpa using hm
      subst hm0
      exact .inl ⟨rfl, rfl⟩⟩
  · refine ⟨some ⟨b, o, none⟩, cap, rfl, hc, fun m hm => .inr ⟨b, o, cap, by simp [hm], by simp; omega, hb, fun j x hj k u hu => hx j x ?_ k u hu⟩⟩
    rw [List.getElem?_take] at hj
    split at hj
    · exact hj
    · cases hj
/-- The boxes of two slices. -/
structure TwoS (w W : World) (va vb : Value) (t : TypeId) : Prop where
  eq : W = (w.alloc (.cells #[va] t)).alloc (.cells #[vb] t)
  bl : Bl w W
  size : W.heap.size = w.heap.size + 1 + 1
  k : ∀ u, Bl W u → u.cell? ⟨w.heap.size, 0, none⟩ = some va ∧ u.cell? ⟨w.heap.size + 1, 0, none⟩ = some vb ∧ u.frozen? ⟨w.heap.size, 0, none⟩ = false ∧ u.frozen? ⟨w.heap.size + 1, 0, none⟩ = false
theorem twoS_ex (w : World) (va vb : Value) (t : TypeId) : ∃ W, TwoS w W va vb t := by
  refine ⟨_, rfl, ((Bl.refl _).alloc _).alloc _, by simp, fun u hu => ⟨?_, ?_, ?_, ?_⟩⟩
  · rw [bl_cell hu _ _ (by simp; omega)]; simp [go_sem]
  · rw [bl_cell hu _ _ (by simp)]; simp [go_sem]
  · rw [bl_froz hu _ _ (by simp; omega)]; simp [go_sem]
  · rw [bl_froz hu _ _ (by simp)]; simp [go_sem]
/-- Of what lies from lo up to hi nothing has turned. -/
structure Span (lo hi : Nat) (w w' : World) : Prop where
  size : w.heap.size ≤ w'.heap.size
  block : ∀ k, lo ≤ k → k < hi → w'.heap[k]? = w.heap[k]?
theorem Span.refl (lo hi : Nat) (w : World) : Span lo hi w w := ⟨Nat.le_refl _, fun _ _ _ => rfl⟩
theorem Span.trans {lo hi : Nat} {a b c : World} (h : Span lo hi a b) (k : Span lo hi b c) : Span lo hi a c := ⟨Nat.le_trans h.size k.size, fun i h1 h2 => (k.block i h1 h2).trans (h.block i h1 h2)⟩
theorem Bl.span {lo hi : Nat} {w w' : World} (h : Bl w w') (hh : hi ≤ w.heap.size) : Span lo hi w w' := ⟨Below.size h, fun k _ h2 => Below.block h k (by omega)⟩
theorem Span.cell {lo hi : Nat} {w w' : World} (h : Span lo hi w w') (b o : Nat) (h1 : lo ≤ b) (h2 : b < hi) : w'.cell? ⟨b, o, none⟩ = w.cell? ⟨b, o, none⟩ := World.cell?_of_block (a := ⟨b, o, none⟩) (h.block b h1 h2)
/-- Two rows of one length, in the variables that an iterator over their pairs has captured: all of it lies from lo up to hi. -/
def PairsIn {α : Type} (s : Nat) (c : α → List Value) (w : World) (lo hi A B : Nat) (xs ys : List α) : Prop :=
  ∃ u v, lo ≤ A ∧ A < hi ∧ lo ≤ B ∧ B < hi ∧ w.cell? ⟨A, 0, none⟩ = some u ∧ w.cell? ⟨B, 0, none⟩ = some v ∧ Rw s c w u xs ∧ Rw s c w v ys ∧ (∀ g, u.ownBlock = some g → lo ≤ g ∧ g < hi) ∧ (∀ g, v.ownBlock = some g → lo ≤ g ∧ g < hi) ∧ xs.length = ys.length
theorem Rw.span {α : Type} {s : Nat} {c : α → List Value} {w w' : World} {v : Value} {xs : List α} {lo hi : Nat} (h : Rw s c w v xs) (hf : ∀ g, v.ownBlock = some g → lo ≤ g ∧ g < hi) (k : Span lo hi w w') : Rw s c w' v xs := by
  rcases h with h | ⟨b, o, cap, rfl, hc, hb, hx⟩
  · exact .inl h
  · have hne := hf b rfl
    exact .inr ⟨b, o, cap, rfl, hc, Nat.lt_of_lt_of_le hb k.size, fun j x hj i v hv => (k.cell b _ hne.1 hne.2).trans (hx j x hj i v hv)⟩
theorem PairsIn.later {α : Type} {s : Nat} {c : α → List Value} {w w' : World} {lo hi A B : Nat} {xs ys : List α} (h : PairsIn s c w lo hi A B xs ys) (k : Span lo hi w w') : PairsIn s c w' lo hi A B xs ys := by
  obtain ⟨u, v, a1, a2, b1, b2, cu, cv, ru, rv, fu, fv, hl⟩ := h
  exact ⟨u, v, a1, a2, b1, b2, (k.cell _ _ a1 a2).trans cu, (k.cell _ _ b1 b2).trans cv, ru.span fu k, rv.span fv k, fu, fv, hl⟩
theorem Rw.lt {α : Type} {s : Nat} {c : α → List Value} {w : World} {v : Value} {xs : List α} (h : Rw s c w v xs) : ∀ g, v.ownBlock = some g → g < w.heap.size := by
  rcases h with ⟨rfl, rfl⟩ | ⟨b, o, cap, rfl, hc, hb, hx⟩
  · nofun
  · intro g hg; cases hg; exact hb
theorem flat_one {α : Type} {c : α → List Value} (h1 : ∀ x, ∀ u ∈ c x, u.oneCell' = true) (xs : List α) : ∀ u ∈ xs.flatMap c, u.oneCell' = true := by
  intro u hu
  obtain ⟨x, _, hx⟩ := List.mem_flatMap.1 hu
  exact h1 x u hx
/-- A slice of numbers that came in: as Rw, and of none that is read its address may be whatever it is. -/
def Rq {α : Type} (s : Nat) (c : α → List Value) (w : World) (v : Value) (xs : List α) : Prop :=
  (∃ p cap, v = .slice p 0 cap ∧ xs = [] ∧ (p = none → cap = 0)) ∨ ∃ b o cap, v = .slice (some ⟨b, o, none⟩) xs.length cap ∧ xs.length ≤ cap ∧ b < w.heap.size ∧
    ∀ j x, xs[j]? = some x → ∀ k u, (c x)[k]? = some u → w.cell? ⟨b, o + j * s + k, none⟩ = some u
theorem Rw.q {α : Type} {s : Nat} {c : α → List Value} {w : World} {v : Value} {xs : List α} (h : Rw s c w v xs) : Rq s c w v xs := by
  rcases h with ⟨rfl, rfl⟩ | h
  · exact .inl ⟨none, 0, rfl, rfl, fun _ => rfl⟩
  · exact .inr h
theorem Rq.later {α : Type} {s : Nat} {c : α → List Value} {w w' : World} {v : Value} {xs : List α} (h : Rq s c w v xs) (k : Bl w w') : Rq s c w' v xs := by
  rcases h with h | ⟨b, o, cap, e, hc, hb, hx⟩
  · exact .inl h
  · exact .inr ⟨b, o, cap, e, hc, Nat.lt_of_lt_of_le hb (Below.size k), fun j x hj i u hu => (bl_cell k _ _ hb).trans (hx j x hj i u hu)⟩
/-- Its first ones. -/
theorem Rq.cut {α : Type} {s : Nat} {c : α → List Value} {w : World} {v : Value} {xs : List α} (h : Rq s c w v xs) :
    ∃ p cap, v = .slice p xs.length cap ∧ xs.length ≤ cap ∧ ∀ m, m ≤ xs.length → Rq s c w (.slice p m cap) (xs.take m) := by
  rcases h with ⟨p, cap, rfl, rfl, hp⟩ | ⟨b, o, cap, rfl, hc, hb, hx⟩
  · exact ⟨p, cap, rfl, Nat.zero_le _, fun m hm => by
      have hm0 : m = 0 := by simpa using hm
      subst hm0
      exact .inl ⟨p, cap, rfl, rfl, hp⟩⟩
  · refine ⟨some ⟨b, o, none⟩, cap, rfl, hc, fun m hm => .inr ⟨b, o, cap, by simp [hm], by simp; omega, hb, fun j x hj k u hu => hx j x ?_ k u hu⟩⟩
    rw [List.getElem?_take] at hj
    split at hj
    · exact hj
    · cases hj
end Go.Proofs.Ytokbmbgiimbkpaa

/- A stretch of a region that draws its order, inside a fence, by what holds between its operations, whatever their order; an append as one of its operations. -/
namespace Go.Proofs.Ytokbmbgiimbkpaa
open Go.RowKit
set_option linter.unusedSimpArgs false
set_option linter.unusedVariables false

/-- k operations are to come in this stretch: I holds between them. -/
theorem wpAnyIn_phase {F : Fence} {n : Nat} {P : Program} {md : Region.Mode} {ops : Array Oper} {Q : Exit → Act → World → Prop} {fuel : Nat} (I : Nat → Array Bool → Act → World → Prop)
    (fin : ∀ l a w, I 0 l a w → wpAnyIn F n P md ops Q fuel l a w)
    (live : ∀ k l a w, I (k + 1) l a w → Region.ready md ops l = [] → False)
    (step : ∀ k l a w i, I (k + 1) l a w → l.getD i true = false → (∀ e, (∃ o, ops[i]? = some o ∧ e ∈ o.after) → Region.binds md e = true → l.getD e.on false = true) → wpOpIn F n P ops Q i (fun a' w' => I k (l.setIfInBounds i true) a' w') a w) :
    ∀ (k : Nat) (l : Array Bool) (a : Act) (w : World), I k l a w → wpAnyIn F n P md ops Q (fuel + k) l a w
  | 0, l, a, w, h => fin l a w h
  | k + 1, l, a, w, h => ⟨fun h0 => (live k l a w h h0).elim, fun i hi => by
      obtain ⟨h1, o, ho, hall⟩ := mem_ready.1 hi
      refine wpOpIn_mono (fun a' w' h' => wpAnyIn_phase I fin live step k _ a' w' h') (step k l a w i h h1 (fun e ⟨o', ho', he⟩ hb => ?_))
      rw [ho] at ho'
      cases ho'
      exact hall e he hb⟩
/-- An append, as one operation. -/
theorem stepIn_append {F : Fence} {nF : Nat} {P : Program} {o : Oper} {a : Act} {w : World} {K : Act → World → Prop} {Q : Exit → Act → World → Prop} (s x : Operand) (t : TypeId)
    (ho : o.op = .call { callee := .builtin .append, args := #[s, x], argTypes := #[t, t] })
    (base : Nat) (e : TypeId) (i : TypeInfo) (z : Value) (size bytes : Nat) (ht : P.underlying t = some (.slice e)) (hi : P.info? e = some i) (hz : i.zero = some z)
    (hsize : i.size = size) (hby : i.bytes = bytes) (hzs : z.cells.size = size) (hsz : 0 < size)
    (v : Value) (n : Nat) (xs : List Value) (hs : a.eval s = v) (hown : w.ownsRow base e size v n xs)
    (ad : Addr) (m c : Nat) (news : List Value) (hx : a.eval x = .slice (some ad) m c) (hl : news.length = m * size) (hnews : ∀ j u, news[j]? = some u → w.cell? (ad.add j) = some u) (h1 : ∀ u ∈ news, u.oneCell' = true)
    (h63 : n + m ≤ maxLen) (hbytes : (n + m) * bytes ≤ 140737488355328) (hbase : base ≤ w.heap.size)
    (h : ∀ v' w', w'.ownsRow base e size v' (n + m) (xs ++ news) → w.grownBy w' v.ownBlock → (v'.ownBlock = v.ownBlock ∨ v'.ownBlock = some w.heap.size) → K (a.put o.dst v') w') :
    Oper.wpIn F nF P o a w K Q := by
  obtain ⟨v', w', hr, h2, h3, h4, h5⟩ := run_append_own_at (P := P) w base t o.type e i z size bytes ht hi hz hsize hby hzs hsz v n xs hown ad m c news hl hnews h1 h63 hbytes hbase
  unfold Oper.wpIn
  refine ⟨by simp [Oper.about, ho, resolve, Target.leads, Sem.run_pure], ?_⟩
  rw [Oper.semAt_plain F _ _ (by rw [ho]; intro c hc'; cases hc')]
  simp [execOp, ho, resolve, invoke, builtin, hs, hx, hr, Result.andThen]
  exact h v' w' h2 h3 h5
/-- One more to come. -/
def one' (b : Bool) : Nat := if b then 0 else 1
theorem getD_lt' {l : Array Bool} {i : Nat} (h : l.getD i true = false) : i < l.size := by
  rcases Nat.lt_or_ge i l.size with h' | h'
  · exact h'
  · simp [Array.getD, Nat.not_lt.2 h'] at h
end Go.Proofs.Ytokbmbgiimbkpaa

/- What is done of all pairs of two rows: what holds whatever their numbers (layer 5). -/
namespace Go.Proofs.Ytokbmbgiimbkpaa
open Go.RowKit
set_option linter.unusedSimpArgs false
set_option linter.unusedVariables false

/-- What is done of all pairs. -/
def opL {α : Type} (op : α → α → α) (pre : List (α × α)) : List α := pre.map fun p => op p.1 p.2
theorem opL_snoc {α : Type} (op : α → α → α) (pre : List (α × α)) (x : α × α) : opL op (pre ++ [x]) = opL op pre ++ [op x.1 x.2] := by simp [opL]
theorem opL_zip {α : Type} (op : α → α → α) (xs ys : List α) (m : Nat) (h : m = min xs.length ys.length) : opL op ((xs.take m).zip (ys.take m)) = List.zipWith op xs ys := by
  subst h
  induction xs generalizing ys with
  | nil => simp [opL]
  | cons x xs ih =>
    cases ys with
    | nil => simp [opL]
    | cons y ys =>
      have := ih ys
      simp only [opL, List.length_cons] at this ⊢
      rw [show min (xs.length + 1) (ys.length + 1) = min xs.length ys.length + 1 by omega]
      simp [List.take_succ_cons, this]
theorem boxed_bl {w w' : World} {B : Nat} {t : TypeId} {v : Value} (h : Boxed w B t v) (k : Bl w w') : Boxed w' B t v := (Below.block k B h.lt).trans h
theorem span_b {lo hi : Nat} {w : World} (hh : hi ≤ w.heap.size) (W : World) (l : Nat) (o o' : Obj) (hl : w.heap.size ≤ l) (h : W.heap[l]? = some o) (_ : o.isCells = false) (_ : o.isWalk = false) : Span lo hi W (W.putObj l o') :=
  ⟨by simp [World.putObj], fun k _ h2 => World.putObj_heap_other (by omega)⟩
theorem Bl.keeps {w w' : World} (B : Nat) (h : Bl w w') : KeepsFrom B w w' := by
  refine ⟨h.size, fun k o h1 h2 h3 => ?_⟩
  exact (Below.block h k (Array.getElem?_eq_some_iff.1 h2).1).trans h2
/-- Behind an append to a row that a variable holds, and the store of what comes of it. -/
theorem boxed_appended {u w5 : World} {n₀ B : Nat} {t e : TypeId} {size : Nat} {v v' : Value} {k m : Nat} {xs ys : List Value}
    (hv : Boxed u B t v) (hte : t ≠ e) (hrow : u.ownsRow n₀ e size v k xs) (hn₀ : n₀ ≤ u.heap.size) (hB : n₀ ≤ B)
    (hown' : w5.ownsRow n₀ e size v' m ys) (hgrow : u.grownBy w5 v.ownBlock) :
    Boxed w5 B t v ∧ Boxed (w5.setCell ⟨B, 0, none⟩ v') B t v' ∧ (w5.setCell ⟨B, 0, none⟩ v').ownsRow n₀ e size v' m ys ∧ KeepsOthers u (w5.setCell ⟨B, 0, none⟩ v') ∧ Below n₀ u (w5.setCell ⟨B, 0, none⟩ v') := by
  have hv1 : Boxed w5 B t v := hv.kept hgrow (hv.not_row hte hrow)
  refine ⟨hv1, hv1.set v', hown'.kept (grownBy_setCell' w5 B v') (.inr (hv1.not_row hte hown').symm), ?_, ?_⟩
  · refine (KeepsOthers.of_grownBy hgrow fun j o ej hj => ?_).trans (KeepsOthers.setCell _ _ _)
    rcases hrow.2 with ⟨rfl, _⟩ | ⟨g, cap, cur, rfl, _, hgb, _⟩
    · simp [Value.ownBlock] at ej
    · obtain rfl : g = j := by simpa [Value.ownBlock] using ej
      rw [hgb] at hj; cases hj; rfl
  · exact ((Below.refl n₀ u).grown hgrow hn₀ (fun j ej => (hrow.lt j ej).1)).setCell (p := ⟨B, 0, none⟩) hB v'
/-- Of what lies elsewhere nothing has turned. -/
theorem span_appended {W u w5 : World} {lo hi R : Nat} {v v' : Value} (hB : Bl W u) (hh : hi ≤ W.heap.size) (hg : ∀ g, v.ownBlock = some g → g < lo ∨ hi ≤ g) (hgrow : u.grownBy w5 v.ownBlock) (hR : R < lo) : Span lo hi W (w5.setCell ⟨R, 0, none⟩ v') := by
  refine ⟨by have := hB.size; have := hgrow.size; simp; omega, fun k h1 h2 => ?_⟩
  have e1 : (w5.setCell ⟨R, 0, none⟩ v').heap[k]? = w5.heap[k]? := Below.heap_setCell _ _ _ k (by show k ≠ R; omega)
  have e2 : w5.heap[k]? = u.heap[k]? := hgrow.block k (by have := hB.size; omega) (fun e => by rcases hg k e.symm with h | h <;> omega)
  exact (e1.trans e2).trans (Below.block hB k (by omega))
end Go.Proofs.Ytokbmbgiimbkpaa

/- A range over a function, where a round is told what holds of what it is handed (a row that was just laid, say): the iterator's contract, a round, the loop outside of a round and within one. -/
namespace Go.Proofs.Ytokbmbgiimbkpaa
open Go.RowKit
set_option linter.unusedSimpArgs false
set_option linter.unusedVariables false

theorem Bl.grown0 {w w' : World} (h : Bl w w') : w.grownBy w' none := ⟨h.os, h.tape, h.output, h.size, fun k hk _ => h.block k hk⟩
theorem own_later {β : Type} {B : Nat} {I : β → World → Prop} (h : OwnFrom B I) {s : β} {w w' : World} (k : Bl w w') (hs : I s w) : I s w' := h s w w' none hs k.grown0 nofun
/-- An iterator: of each x that is handed to yield in W1, V x W0 W1 holds, W0 being the world behind the round before. -/
def SeqV {α : Type} (F : Fence) (n : Nat) (P : Program) (g : Nat) (lb : Array Value) (encs : α → Array Value) (V : α → World → World → Prop) (Kp : World → World → Prop) (S Sp : List α → Prop) (N : Nat) (w : World) : Prop :=
  ∀ (l : Nat) (J Jx : List α → World → Prop) (W : World), Bl w W → AbidesFrom W.heap.size J → AbidesFrom W.heap.size Jx →
    (∀ pre x W0 W1, J pre W0 → V x W0 W1 → pre.length < N → YieldAt F (n - 1) P l (encs x) W1 fun e W' =>
      (e = .returned (.bool true) ∧ J (pre ++ [x]) W' ∧ Kp W1 W') ∨ (e = .returned (.bool false) ∧ Jx (pre ++ [x]) W')) →
    J [] W → CallsIn F n P g (#[.func (.yield l) #[] #[]] ++ lb) W fun e W' => (∃ v, e = .returned v) ∧ ((∃ xs, S xs ∧ J xs W') ∨ ∃ pre, Sp pre ∧ Jx pre W')
theorem SeqV.inRound {α : Type} {F : Fence} {n : Nat} {P : Program} {g : Nat} {lb : Array Value} {encs : α → Array Value} {V : α → World → World → Prop} {Kp : World → World → Prop} {S Sp : List α → Prop} {N : Nat} {w : World} (l : Nat)
    (h : SeqV F n P g lb encs V Kp S Sp N w) : SeqV (F.inRound l) n P g lb encs V Kp S Sp N w := h
/-- The record, behind a round that ended by a jump, or none. -/
def recOf (r : Loop) (j : Option Code) : Loop := { r with state := if j.isNone then .ready else .done, pending := j }
theorem recOf_none {r : Loop} (h1 : r.state = .ready) (h2 : r.pending = none) : recOf r none = r := by
  obtain ⟨st, pe, _, _, _, _, _, _⟩ := r
  simp only at h1 h2
  subst h1 h2
  rfl
/-- A jump's way out of a round, and what holds there. -/
def leftBy {α : Type} (B : Nat) (Kp : World → World → Prop) (I : List α → World → Prop) (Ix : Code → List α → World → Prop) (xs : List α) (W W' : World) : Option Code → Prop
  | none => I xs W' ∧ Kp W W'
  | some c => Ix c xs W'
/-- One round, from yield's call on. -/
theorem rv_round {α : Type} {F : Fence} {m : Nat} {P : Program} {l B : Nat} (hB : B ≤ l) {r : Loop} (hst : r.state = .ready) (hfn : F.fn r.fn) {args : Array Value} (hps : args.size = r.params.size)
    {Kp : World → World → Prop} (hKt : ∀ {A B C : World}, Kp A B → Kp B C → Kp A C) (hKb : ∀ (W : World) (l : Nat) (o o' : Obj), B ≤ l → W.heap[l]? = some o → o.isCells = false → o.isWalk = false → Kp W (W.putObj l o'))
    {I : List α → World → Prop} {Ix : Code → List α → World → Prop} (hI : OwnFrom B I) (hIx : ∀ c, OwnFrom B (Ix c)) {Ax : Act → World → Prop} (hAx : ∀ a', OwnFrom B (fun (_ : Unit) W => Ax a' W))
    {pre ys : List α} {W : World} (hl : W.heap[l]? = some (.loop r))
    (hassign : ∀ K : Act → World → Prop, (∀ a' W', KeepsFrom B W W' → Kp W W' → I pre W' → Ax a' W' → K a' W') →
      r.assign.wpIn (F.inRound l) m P (Exit.then K (fun _ _ _ => False)) { tmps := (r.params.zip args).foldl (fun t (p, v) => t.setIfInBounds p v) r.tmps, defers := [] } W)
    (hbody : ∀ a' W', (∃ r', W'.heap[l]? = some (.loop r')) → I pre W' → Ax a' W' → r.body.wpIn (F.inRound l) m P (ownPostG B Kp I Ix ys W') a' W') :
    YieldAt F m P l args W fun e W' => ∃ j : Option Code, e = .returned (.bool j.isNone) ∧ W'.heap[l]? = some (.loop (recOf r j)) ∧ (∀ k o, B ≤ k → k ≠ l → W.heap[k]? = some o → o.isCells = false → W'.heap[k]? = some o) ∧ leftBy B Kp I Ix ys W W' j := by
  refine ⟨_, _, _, _, run_yield hl hps, roundIn_of_wpIn hfn (hassign _ fun a' Wa kf kp hi ha => ?_)⟩
  have hla := kf.same l _ hB hl rfl
  have hlt := (Array.getElem?_eq_some_iff.1 hla).1
  refine ⟨_, run_beginRound hla hst, ?_⟩
  generalize hWb : Wa.putObj l (.loop { r with state := .busy }) = Wb
  have hlb : Wb.heap[l]? = some (.loop { r with state := .busy }) := by rw [← hWb]; exact World.putObj_heap_same hlt
  have kb : Kp W Wb := by rw [← hWb]; exact hKt kp (hKb _ _ _ _ hB hla rfl rfl)
  have hib : I pre Wb := by rw [← hWb]; exact hI.putObj _ hi hB hla rfl
  have hab : Ax a' Wb := by rw [← hWb]; exact (hAx a').putObj (s := ()) _ ha hB hla rfl
  have hoth : ∀ k o, B ≤ k → k ≠ l → W.heap[k]? = some o → o.isCells = false → Wb.heap[k]? = some o := fun k o h1 h2 h3 h4 => by
    rw [← hWb]; exact (World.putObj_heap_other h2).trans (kf.same k o h1 h3 h4)
  clear kf kp hi ha hl hla hlt hWb
  have close : ∀ (j : Option Code) (W3 : World), KeepsFrom B Wb W3 → (∀ W4, Kp W3 W4 → W4 = W3.putObj l (.loop (recOf r j)) → leftBy B Kp I Ix ys W W4 j) →
      ∃ v w', (Instr.endRound l j).run P W3 = .ok v w' ∧ ∃ i : Option Code, Ending.returned v = .returned (.bool i.isNone) ∧ w'.heap[l]? = some (.loop (recOf r i)) ∧ (∀ k o, B ≤ k → k ≠ l → W.heap[k]? = some o → o.isCells = false → w'.heap[k]? = some o) ∧ leftBy B Kp I Ix ys W w' i := by
    intro j W3 k3 hleft
    have hl3 := k3.same l _ hB hlb rfl
    have hr := run_endRound (P := P) j hl3
    refine ⟨_, _, hr, j, rfl, World.putObj_heap_same (Array.getElem?_eq_some_iff.1 hl3).1, fun k o h1 h2 h3 h4 => (World.putObj_heap_other h2).trans (k3.same k o h1 (hoth k o h1 h2 h3 h4) h4), hleft _ (hKb _ _ _ _ hB hl3 rfl rfl) rfl⟩
  refine wpIn_mono (hbody a' Wb ⟨_, hlb⟩ hib hab) ?_
  intro e a3 W3 h
  have put : ∀ (c : Code), KeepsFrom B Wb W3 → Ix c ys W3 → ∀ W4, Kp W3 W4 → W4 = W3.putObj l (.loop (recOf r (some c))) → leftBy B Kp I Ix ys W W4 (some c) := by
    rintro c k3 hx W4 _ rfl
    exact (hIx c).putObj _ hx hB (k3.same l _ hB hlb rfl) rfl
  cases e with
  | normal =>
    obtain ⟨k3, p3, i3⟩ := h
    exact close none W3 k3 (by rintro W4 h4 rfl; exact ⟨hI.putObj _ i3 hB (k3.same l _ hB hlb rfl) rfl, hKt (hKt kb p3) h4⟩)
  | ret => exact close (some .ret) W3 h.1 (put _ h.1 h.2)
  | exit id => exact close (some (.exit id)) W3 h.1 (put _ h.1 h.2)
  | goto t => exact close (some (.goto t)) W3 h.1 (put _ h.1 h.2)
  | panic _ => exact h.elim
  | outgrown => exact h.elim
/-- What the iterator's call leaves, the record and what else is no cells beside the invariant. -/
theorem rv_run {α : Type} {F : Fence} {n : Nat} {P : Program} {l B : Nat} {w W1 : World} (hB : B ≤ l) (hb : Bl w W1) (hlt1 : B ≤ W1.heap.size) {r : Loop} (hst : r.state = .ready) (hpe : r.pending = none) (hfn : F.fn r.fn)
    {gf : Nat} {lb : Array Value} {encs : α → Array Value} {V : α → World → World → Prop} {Kp : World → World → Prop} {S Sp : List α → Prop} {N : Nat} (hseq : SeqV F n P gf lb encs V Kp S Sp N w) (hV : ∀ x A B, V x A B → Bl A B)
    (hps : ∀ x, (encs x).size = r.params.size)
    (hKt : ∀ {A B C : World}, Kp A B → Kp B C → Kp A C) (hKb : ∀ (W : World) (l : Nat) (o o' : Obj), B ≤ l → W.heap[l]? = some o → o.isCells = false → o.isWalk = false → Kp W (W.putObj l o'))
    {I : List α → World → Prop} {Ix : Code → List α → World → Prop} (hI : OwnFrom B I) (hIx : ∀ c, OwnFrom B (Ix c)) {Ax : α → Act → World → Prop} (hAx : ∀ x a', OwnFrom B (fun (_ : Unit) W => Ax x a' W))
    (hl : W1.heap[l]? = some (.loop r)) (h0 : I [] W1) (D : Nat) (od : Obj) (hD : B ≤ D) (hDl : D ≠ l) (hod : W1.heap[D]? = some od ∨ W1.heap.size ≤ D) (hoc : od.isCells = false) (how : od.isWalk = false)
    (hassign : ∀ (pre : List α) (x : α) (W0 W : World) (K : Act → World → Prop), I pre W0 → V x W0 W → I pre W → (∀ a' W', KeepsFrom B W W' → Kp W W' → I pre W' → Ax x a' W' → K a' W') →
      r.assign.wpIn (F.inRound l) (n - 1) P (Exit.then K (fun _ _ _ => False)) { tmps := (r.params.zip (encs x)).foldl (fun t (p, v) => t.setIfInBounds p v) r.tmps, defers := [] } W)
    (hbody : ∀ (pre : List α) (x : α) (a' : Act) (W : World), (∃ r', W.heap[l]? = some (.loop r')) → I pre W → Ax x a' W → pre.length < N → r.body.wpIn (F.inRound l) (n - 1) P (ownPostG B Kp I Ix (pre ++ [x]) W) a' W) :
    CallsIn F n P gf (#[.func (.yield l) #[] #[]] ++ lb) W1 fun e W' => (∃ v, e = .returned v) ∧ ((∃ xs, S xs ∧ I xs W' ∧ W'.heap[l]? = some (.loop r) ∧ (W1.heap[D]? = some od → W'.heap[D]? = some od)) ∨ ∃ pre c, Sp pre ∧ Ix c pre W' ∧ W'.heap[l]? = some (.loop (recOf r (some c))) ∧ (W1.heap[D]? = some od → W'.heap[D]? = some od)) := by
  have keep : ∀ {A C : World} {row : Option Nat}, A.grownBy C row → (∀ q, row = some q → W1.heap.size ≤ q ∧ ∃ o : Obj, A.heap[q]? = some o ∧ o.isWalk = true) → ∀ (k : Nat) (o : Obj), A.heap[k]? = some o → o.isWalk = false → C.heap[k]? = some o := by
    intro A C row hg hr k o hk ho
    refine (hg.block k (Array.getElem?_eq_some_iff.1 hk).1 (fun e => ?_)).trans hk
    obtain ⟨_, o', ho', hw⟩ := hr k e.symm
    rw [hk] at ho'
    cases ho'
    rw [ho] at hw
    cases hw
  have own : ∀ {A : World} {row : Option Nat}, (∀ q, row = some q → W1.heap.size ≤ q ∧ ∃ o : Obj, A.heap[q]? = some o ∧ o.isWalk = true) → ∀ q, row = some q → B ≤ q ∧ ∃ o : Obj, A.heap[q]? = some o ∧ o.isCells = false := by
    intro A row hr q e
    obtain ⟨h1, o, ho, hw⟩ := hr q e
    exact ⟨Nat.le_trans hlt1 h1, o, ho, Obj.not_cells_of_walk hw⟩
  refine (hseq l (fun pre W => I pre W ∧ W.heap[l]? = some (.loop r) ∧ (W1.heap[D]? = some od → W.heap[D]? = some od)) (fun pre W => ∃ c, Ix c pre W ∧ W.heap[l]? = some (.loop (recOf r (some c))) ∧ (W1.heap[D]? = some od → W.heap[D]? = some od)) W1 hb
    (fun s A C row hs hg hr => ⟨hI s A C row hs.1 hg (own hr), keep hg hr _ _ hs.2.1 rfl, fun h => keep hg hr _ _ (hs.2.2 h) how⟩)
    (fun s A C row hs hg hr => by obtain ⟨c, h1, h2, h3⟩ := hs; exact ⟨c, hIx c s A C row h1 hg (own hr), keep hg hr _ _ h2 rfl, fun h => keep hg hr _ _ (h3 h) how⟩) ?_ ⟨h0, hl, id⟩).mono ?_
  · rintro pre x W0 W ⟨i0, l0, d0⟩ hv hlen
    have hbv := hV x W0 W hv
    have hlW := (Below.block hbv l (Array.getElem?_eq_some_iff.1 l0).1).trans l0
    refine ((rv_round (Kp := Kp) (ys := pre ++ [x]) hB hst hfn (hps x) hKt hKb hI hIx (hAx x) hlW (fun K hK => hassign pre x W0 W K i0 hv (own_later hI hbv i0) hK) (fun a' W' hr hi ha => hbody pre x a' W' hr hi ha hlen)) : YieldAt F (n - 1) P l (encs x) W _).mono ?_
    rintro e W' ⟨j, rfl, hl', ho, hj⟩
    have hd' : W1.heap[D]? = some od → W'.heap[D]? = some od := fun h => ho D od hD hDl ((Below.block hbv D (Array.getElem?_eq_some_iff.1 (d0 h)).1).trans (d0 h)) hoc
    cases j with
    | none => exact .inl ⟨rfl, ⟨hj.1, by rw [recOf_none hst hpe] at hl'; exact hl', hd'⟩, hj.2⟩
    | some c => exact .inr ⟨rfl, c, hj, hl', hd'⟩
  · rintro e W' ⟨he, (⟨xs, h1, h2, h3, h4⟩ | ⟨pre, h1, c, h2, h3, h4⟩)⟩
    · exact ⟨he, .inl ⟨xs, h1, h2, h3, h4⟩⟩
    · exact ⟨he, .inr ⟨pre, c, h1, h2, h3, h4⟩⟩
/-- The loop, outside of a round. -/
theorem rangeV {α : Type} {F : Fence} {n : Nat} {P : Program} {g : Operand} {ps : Array Tmp} {assign body : Code} {Q : Exit → Act → World → Prop} {a : Act} {w : World}
    (hro : F.round = none) (h1 : 1 ≤ n) {gf : Nat} {lb : Array Value} (hg : a.eval g = .func (.func gf) #[] lb) (hFg : F.fn gf) (eg : ∀ args w, (callFunc gf args).run P w = .ok (.enter gf args) w)
    {encs : α → Array Value} {V : α → World → World → Prop} {Kp : World → World → Prop} {S Sp : List α → Prop} {N : Nat} (hseq : SeqV F (n - 1) P gf lb encs V Kp S Sp N w) (hV : ∀ x A B, V x A B → Bl A B)
    (hKt : ∀ {A B C : World}, Kp A B → Kp B C → Kp A C) (hKb : ∀ (W : World) (l : Nat) (o o' : Obj), w.heap.size ≤ l → W.heap[l]? = some o → o.isCells = false → o.isWalk = false → Kp W (W.putObj l o')) (hps : ∀ x, (encs x).size = ps.size)
    (I : List α → World → Prop) (Ix : Code → List α → World → Prop) (hI : OwnFrom w.heap.size I) (hIx : ∀ c, OwnFrom w.heap.size (Ix c)) (h0 : I [] w) (Ax : Act → α → Act → World → Prop) (hAx : ∀ x a', OwnFrom w.heap.size (fun (_ : Unit) W => Ax a x a' W))
    (hassign : ∀ (l : Nat) (pre : List α) (x : α) (W0 W : World) (K : Act → World → Prop), I pre W0 → V x W0 W → I pre W → (∀ a' W', KeepsFrom w.heap.size W W' → Kp W W' → I pre W' → Ax a x a' W' → K a' W') →
      assign.wpIn (F.inRound l) (n - 1 - 1) P (Exit.then K (fun _ _ _ => False)) { tmps := (ps.zip (encs x)).foldl (fun t (p, v) => t.setIfInBounds p v) a.tmps, defers := [] } W)
    (hbody : ∀ (l : Nat) (pre : List α) (x : α) (a' : Act) (W : World), w.heap.size ≤ l → (∃ r, W.heap[l]? = some (.loop r)) → I pre W → Ax a x a' W → pre.length < N → body.wpIn (F.inRound l) (n - 1 - 1) P (ownPostG w.heap.size Kp I Ix (pre ++ [x]) W) a' W)
    (hdone : ∀ (D : Nat) (xs : List α) (W : World), w.heap.size ≤ D → S xs → I xs W → W.heap[D]? = some (.deferred (some [])) → Q .normal { a with defers := { target := .collected D, args := #[] } :: a.defers } W)
    (hstop : ∀ (D : Nat) (c : Code) (pre : List α) (W : World), w.heap.size ≤ D → Sp pre → Ix c pre W → W.heap[D]? = some (.deferred (some [])) → c.wpIn F n P Q { a with defers := { target := .collected D, args := #[] } :: a.defers } W) :
    (Code.rangeFunc g ps assign body).wpIn F n P Q a w := by
  refine wpIn_rangeFunc fun fn hfn => ?_
  rw [hro]
  have he := run_enterLoop_outer (P := P) (w := w) fn a.tmps ps assign body
  generalize hr : ({ state := .ready, pending := none, fn, tmps := a.tmps, params := ps, assign, body, defers := w.heap.size } : Loop) = r at he
  obtain ⟨e1, e2, e3, e4, e5, e6, e7⟩ : r.state = .ready ∧ r.pending = none ∧ r.fn = fn ∧ r.tmps = a.tmps ∧ r.params = ps ∧ r.assign = assign ∧ r.body = body := by rw [← hr]; exact ⟨rfl, rfl, rfl, rfl, rfl, rfl, rfl⟩
  clear hr
  generalize hW : (w.alloc (.deferred (some []))).alloc (.loop r) = W1 at he
  have hb : Bl w W1 := by rw [← hW]; exact ((Bl.refl w).alloc _).alloc _
  have hl : W1.heap[w.heap.size + 1]? = some (.loop r) := by
    rw [← hW]; have := World.alloc_heap_new (w.alloc (.deferred (some []))) (.loop r); rwa [World.size_alloc] at this
  have hd : W1.heap[w.heap.size]? = some (.deferred (some [])) := by rw [← hW]; exact (Below.heap_alloc _ _ _ (by simp)).trans (World.alloc_heap_new w _)
  refine ⟨_, _, _, { target := .fn (.func gf) lb, args := #[.func (.yield (w.heap.size + 1)) #[] #[]] }, W1, gf, #[.func (.yield (w.heap.size + 1)) #[] #[]] ++ lb, W1, he, ?_, ?_, ?_, fun _ => h1, ?_⟩
  · simp only [resolve, hg]
    simp [go_sem]
  · intro f' hf'
    simp [Target.leads] at hf'
    subst hf'
    exact hFg
  · simp [invoke, go_sem, eg]
  · refine (rv_run (Kp := Kp) (Ax := Ax a) (Nat.le_succ _) hb hb.size e1 e2 (e3 ▸ hfn) hseq hV (by rw [e5]; exact hps) hKt hKb hI hIx hAx hl (own_later hI hb h0) w.heap.size (.deferred (some [])) (Nat.le_refl _) (by omega) (.inl hd) rfl rfl
      (by rw [e4, e5, e6]; exact fun pre x W0 W K => hassign _ pre x W0 W K) (by rw [e7]; exact fun pre x a' W h => hbody _ pre x a' W (Nat.le_succ _) h)).mono ?_
    rintro e W' ⟨⟨v, rfl⟩, (⟨xs, h1, h2, h3, h4⟩ | ⟨pre, c, h1, h2, h3, h4⟩)⟩
    · have hq := run_endLoop (P := P) h3 (by rw [e1]; decide)
      rw [e2] at hq
      exact ⟨none, _, hq, hdone _ xs _ (Nat.le_refl _) h1 (hI.putObj _ h2 (Nat.le_succ _) h3 rfl) ((World.putObj_heap_other (by omega)).trans (h4 hd))⟩
    · have hq := run_endLoop (P := P) h3 (by simp [recOf])
      exact ⟨some c, _, hq, hstop _ c pre _ (Nat.le_refl _) h1 ((hIx c).putObj _ h2 (Nat.le_succ _) h3 rfl) ((World.putObj_heap_other (by omega)).trans (h4 hd))⟩
/-- The loop, within a round of another one. -/
theorem rangeVin {α : Type} {F : Fence} {n : Nat} {P : Program} {l₀ : Nat} {r₀ : Loop} {g : Operand} {ps : Array Tmp} {assign body : Code} {Q : Exit → Act → World → Prop} {a : Act} {w : World}
    (hro : F.round = some l₀) (hl₀ : w.heap[l₀]? = some (.loop r₀)) (h1 : 1 ≤ n) {gf : Nat} {lb : Array Value} (hg : a.eval g = .func (.func gf) #[] lb) (hFg : F.fn gf) (eg : ∀ args w, (callFunc gf args).run P w = .ok (.enter gf args) w)
    {encs : α → Array Value} {V : α → World → World → Prop} {Kp : World → World → Prop} {S Sp : List α → Prop} {N : Nat} (hseq : SeqV F (n - 1) P gf lb encs V Kp S Sp N w) (hV : ∀ x A B, V x A B → Bl A B)
    (hKt : ∀ {A B C : World}, Kp A B → Kp B C → Kp A C) (hKb : ∀ (W : World) (l : Nat) (o o' : Obj), w.heap.size ≤ l → W.heap[l]? = some o → o.isCells = false → o.isWalk = false → Kp W (W.putObj l o')) (hps : ∀ x, (encs x).size = ps.size)
    (I : List α → World → Prop) (Ix : Code → List α → World → Prop) (hI : OwnFrom w.heap.size I) (hIx : ∀ c, OwnFrom w.heap.size (Ix c)) (h0 : I [] w) (Ax : Act → α → Act → World → Prop) (hAx : ∀ x a', OwnFrom w.heap.size (fun (_ : Unit) W => Ax a x a' W))
    (hassign : ∀ (l : Nat) (pre : List α) (x : α) (W0 W : World) (K : Act → World → Prop), I pre W0 → V x W0 W → I pre W → (∀ a' W', KeepsFrom w.heap.size W W' → Kp W W' → I pre W' → Ax a x a' W' → K a' W') →
      assign.wpIn (F.inRound l) (n - 1 - 1) P (Exit.then K (fun _ _ _ => False)) { tmps := (ps.zip (encs x)).foldl (fun t (p, v) => t.setIfInBounds p v) a.tmps, defers := [] } W)
    (hbody : ∀ (l : Nat) (pre : List α) (x : α) (a' : Act) (W : World), w.heap.size ≤ l → (∃ r, W.heap[l]? = some (.loop r)) → I pre W → Ax a x a' W → pre.length < N → body.wpIn (F.inRound l) (n - 1 - 1) P (ownPostG w.heap.size Kp I Ix (pre ++ [x]) W) a' W)
    (hdone : ∀ (xs : List α) (W : World), S xs → I xs W → Q .normal a W)
    (hstop : ∀ (c : Code) (pre : List α) (W : World), Sp pre → Ix c pre W → c.wpIn F n P Q a W) :
    (Code.rangeFunc g ps assign body).wpIn F n P Q a w := by
  refine wpIn_rangeFunc fun fn hfn => ?_
  rw [hro]
  have he := run_enterLoop_inner (P := P) hl₀ fn a.tmps ps assign body
  generalize hr : ({ state := .ready, pending := none, fn, tmps := a.tmps, params := ps, assign, body, defers := r₀.defers } : Loop) = r at he
  obtain ⟨e1, e2, e3, e4, e5, e6, e7⟩ : r.state = .ready ∧ r.pending = none ∧ r.fn = fn ∧ r.tmps = a.tmps ∧ r.params = ps ∧ r.assign = assign ∧ r.body = body := by rw [← hr]; exact ⟨rfl, rfl, rfl, rfl, rfl, rfl, rfl⟩
  clear hr
  generalize hW : w.alloc (.loop r) = W1 at he
  have hb : Bl w W1 := by rw [← hW]; exact (Bl.refl w).alloc _
  have hl : W1.heap[w.heap.size]? = some (.loop r) := by rw [← hW]; exact World.alloc_heap_new w _
  have hs1 : W1.heap.size = w.heap.size + 1 := by rw [← hW]; simp
  refine ⟨_, _, _, { target := .fn (.func gf) lb, args := #[.func (.yield w.heap.size) #[] #[]] }, W1, gf, #[.func (.yield w.heap.size) #[] #[]] ++ lb, W1, he, ?_, ?_, ?_, fun _ => h1, ?_⟩
  · simp only [resolve, hg]
    simp [go_sem]
  · intro f' hf'
    simp [Target.leads] at hf'
    subst hf'
    exact hFg
  · simp [invoke, go_sem, eg]
  · refine (rv_run (Kp := Kp) (Ax := Ax a) (Nat.le_refl _) hb hb.size e1 e2 (e3 ▸ hfn) hseq hV (by rw [e5]; exact hps) hKt hKb hI hIx hAx hl (own_later hI hb h0) (w.heap.size + 1) (.deferred (some [])) (Nat.le_succ _) (by omega) (.inr (by omega)) rfl rfl
      (by rw [e4, e5, e6]; exact fun pre x W0 W K => hassign _ pre x W0 W K) (by rw [e7]; exact fun pre x a' W h => hbody _ pre x a' W (Nat.le_refl _) h)).mono ?_
    rintro e W' ⟨⟨v, rfl⟩, (⟨xs, h1, h2, h3, _⟩ | ⟨pre, c, h1, h2, h3, _⟩)⟩
    · have hq := run_endLoop (P := P) h3 (by rw [e1]; decide)
      rw [e2] at hq
      exact ⟨none, _, hq, hdone xs _ h1 (hI.putObj _ h2 (Nat.le_refl _) h3 rfl)⟩
    · have hq := run_endLoop (P := P) h3 (by simp [recOf])
      exact ⟨some c, _, hq, hstop c pre _ h1 ((hIx c).putObj _ h2 (Nat.le_refl _) h3 rfl)⟩
/-- A row speaks of cells alone. -/
theorem rw_own {α : Type} {s : Nat} {c : α → List Value} {X Y : World} {v : Value} {xs : List α} {row : Option Nat} (h : Rw s c X v xs) (hg : X.grownBy Y row) (hr : ∀ r, row = some r → ∃ o : Obj, X.heap[r]? = some o ∧ o.isCells = false) : Rw s c Y v xs := by
  rcases h with h | ⟨b, o, cap, rfl, hc, hb, hx⟩
  · exact .inl h
  · exact .inr ⟨b, o, cap, rfl, hc, Nat.lt_of_lt_of_le hb hg.size, fun j x hj k u hu => cell_kept (hx j x hj k u hu) hg hr⟩
/-- A row whose block an append to another one, and a store into a variable, leave as it was. -/
theorem Rw.beside {α : Type} {s : Nat} {c : α → List Value} {u w5 : World} {B : Nat} {v v' : Value} {xs : List α} {row : Option Nat} (h : Rw s c u v xs) (hg : u.grownBy w5 row) (hne : ∀ g, v.ownBlock = some g → row ≠ some g ∧ g ≠ B) : Rw s c (w5.setCell ⟨B, 0, none⟩ v') v xs := by
  rcases h with h | ⟨b, o, cap, rfl, hc, hb, hx⟩
  · exact .inl h
  · have h1 := hne b rfl
    have hk : (w5.setCell ⟨B, 0, none⟩ v').heap[b]? = u.heap[b]? := (Below.heap_setCell _ _ _ b (by show b ≠ B; exact h1.2)).trans (hg.block b hb (fun e => h1.1 e.symm))
    exact .inr ⟨b, o, cap, rfl, hc, by have := hg.size; simp; omega, fun j x hj k v hv => (World.cell?_of_block (a := ⟨b, o + j * s + k, none⟩) hk).trans (hx j x hj k v hv)⟩
theorem own_span {β : Type} {B lo hi : Nat} {w₀ : World} (hh : hi ≤ B) (hB : B ≤ w₀.heap.size) : OwnFrom B (fun (_ : β) W => Span lo hi w₀ W) := by
  intro _ X Y row hs hg hr
  refine ⟨Nat.le_trans hs.size hg.size, fun k h1 h2 => (hg.block k (by have := hs.size; omega) (fun e => ?_)).trans (hs.block k h1 h2)⟩
  have := (hr k e.symm).1
  omega
theorem own_size {β : Type} (B n : Nat) : OwnFrom B (fun (_ : β) (W : World) => n ≤ W.heap.size) := fun _ _ _ _ h hg _ => Nat.le_trans h hg.size
theorem own_rw {α β : Type} (B s : Nat) (c : α → List Value) (v : Value) (xs : List α) : OwnFrom B (fun (_ : β) W => Rw s c W v xs) := fun _ _ _ _ h hg hr => rw_own h hg (fun r e => (hr r e).2)
end Go.Proofs.Ytokbmbgiimbkpaa

/- Matrices as lists, row by row (layer 6). Mathematics alone. -/
namespace Go.Proofs.Ytokbmbgiimbkpaa
open Go.RowKit
set_option linter.unusedSimpArgs false
set_option linter.unusedVariables false

/-- A matrix's row. -/
def rowM {α : Type} (C : Nat) (f : Nat → Nat → α) (i : Nat) : List α := (List.range C).map (f i)
/-- A matrix's column. -/
def colM {α : Type} (R : Nat) (f : Nat → Nat → α) (k : Nat) : List α := (List.range R).map (fun i => f i k)
/-- All its numbers, row by row. -/
def mk {α : Type} (R C : Nat) (f : Nat → Nat → α) : List α := (List.range R).flatMap (rowM C f)
theorem rowM_len {α : Type} (C : Nat) (f : Nat → Nat → α) (i : Nat) : (rowM C f i).length = C := by simp [rowM]
theorem colM_len {α : Type} (R : Nat) (f : Nat → Nat → α) (i : Nat) : (colM R f i).length = R := by simp [colM]
theorem mk_succ {α : Type} (R C : Nat) (f : Nat → Nat → α) : mk (R + 1) C f = mk R C f ++ rowM C f R := by simp [mk, List.range_succ]
theorem mk_zero {α : Type} (C : Nat) (f : Nat → Nat → α) : mk 0 C f = [] := rfl
theorem mk_len {α : Type} (R C : Nat) (f : Nat → Nat → α) : (mk R C f).length = R * C := by
  induction R with
  | zero => simp [mk]
  | succ R ih => rw [mk_succ, List.length_append, ih, rowM_len, Nat.succ_mul]
theorem rowM_succ {α : Type} (C : Nat) (f : Nat → Nat → α) (i : Nat) : rowM (C + 1) f i = rowM C f i ++ [f i C] := by simp [rowM, List.range_succ]
theorem colM_succ {α : Type} (R : Nat) (f : Nat → Nat → α) (k : Nat) : colM (R + 1) f k = colM R f k ++ [f R k] := by simp [colM, List.range_succ]
theorem rowM_get {α : Type} {C : Nat} (f : Nat → Nat → α) (i : Nat) {k : Nat} (h : k < C) : (rowM C f i)[k]? = some (f i k) := by simp [rowM, h]
theorem colM_get {α : Type} {R : Nat} (f : Nat → Nat → α) (k : Nat) {i : Nat} (h : i < R) : (colM R f k)[i]? = some (f i k) := by simp [colM, h]
theorem mk_get {α : Type} {R C : Nat} (f : Nat → Nat → α) {i k : Nat} (hi : i < R) (hk : k < C) : (mk R C f)[i * C + k]? = some (f i k) := by
  induction R with
  | zero => omega
  | succ R ih =>
    rw [mk_succ]
    by_cases h : i < R
    · rw [List.getElem?_append_left (by rw [mk_len]; calc i * C + k < i * C + C := by omega
        _ = (i + 1) * C := by rw [Nat.succ_mul]
        _ ≤ R * C := Nat.mul_le_mul_right _ h)]
      exact ih h
    · obtain rfl : i = R := by omega
      rw [List.getElem?_append_right (by rw [mk_len]; omega), mk_len, Nat.add_sub_cancel_left]
      exact rowM_get f i hk
theorem mk_idx {R C i k : Nat} (hi : i < R) (hk : k < C) : i * C + k < R * C := by
  calc i * C + k < i * C + C := by omega
    _ = (i + 1) * C := by rw [Nat.succ_mul]
    _ ≤ R * C := Nat.mul_le_mul_right _ hi
theorem mk_row {α : Type} {R C : Nat} (f : Nat → Nat → α) {i : Nat} (hi : i < R) : ((mk R C f).drop (i * C)).take C = rowM C f i := by
  refine List.ext_getElem? fun k => ?_
  rw [List.getElem?_take]
  by_cases hk : k < C
  · rw [if_pos hk, List.getElem?_drop, mk_get f hi hk, rowM_get f i hk]
  · rw [if_neg hk]
    have : (rowM C f i)[k]? = none := by rw [List.getElem?_eq_none_iff, rowM_len]; omega
    rw [this]
theorem mk_ext {α : Type} {R C : Nat} (f : Nat → Nat → α) (xs : List α) (hl : xs.length = R * C) (h : ∀ i k, i < R → k < C → xs[i * C + k]? = some (f i k)) : xs = mk R C f := by
  refine List.ext_getElem? fun j => ?_
  by_cases hj : j < R * C
  · have hC : 0 < C := by rcases Nat.eq_zero_or_pos C with h0 | h0; · subst h0; simp at hj
                          · exact h0
    have hi : j / C < R := (Nat.div_lt_iff_lt_mul hC).2 hj
    have hk : j % C < C := Nat.mod_lt _ hC
    have e : j / C * C + j % C = j := by rw [Nat.mul_comm]; exact Nat.div_add_mod j C
    have h1 := h _ _ hi hk
    have h2 := mk_get f hi hk
    rw [e] at h1 h2
    rw [h1, h2]
  · rw [List.getElem?_eq_none_iff.2 (by omega), List.getElem?_eq_none_iff.2 (by rw [mk_len]; omega)]
theorem mk_of {α : Type} {R C : Nat} (d : α) (xs : List α) (hl : xs.length = R * C) : xs = mk R C (fun i k => xs.getD (i * C + k) d) :=
  mk_ext _ xs hl fun i k hi hk => by
    have := mk_idx hi hk
    simp [List.getElem?_eq_getElem (show i * C + k < xs.length by omega)]
theorem mk_congr {α : Type} {R C : Nat} {f g : Nat → Nat → α} (h : ∀ i k, i < R → k < C → f i k = g i k) : mk R C f = mk R C g :=
  mk_ext _ _ (mk_len R C f) fun i k hi hk => by rw [mk_get f hi hk, h i k hi hk]
theorem rowM_congr {α : Type} {C : Nat} {f g : Nat → Nat → α} {i : Nat} (h : ∀ k, k < C → f i k = g i k) : rowM C f i = rowM C g i :=
  List.map_congr_left fun k hk => h k (by simpa using hk)
theorem mk_inj {α : Type} {R C : Nat} {f g : Nat → Nat → α} (h : mk R C f = mk R C g) {i k : Nat} (hi : i < R) (hk : k < C) : f i k = g i k := by
  have h1 := mk_get f hi hk
  rw [h, mk_get g hi hk] at h1
  exact (Option.some.inj h1).symm
theorem mk_map {α β : Type} {R C : Nat} (f : Nat → Nat → α) (g : α → β) : (mk R C f).map g = mk R C (fun i k => g (f i k)) :=
  mk_ext _ _ (by rw [List.length_map, mk_len]) fun i k hi hk => by rw [List.getElem?_map, mk_get f hi hk]; rfl
theorem mk_zip {α β γ : Type} {R C : Nat} (op : α → β → γ) (f : Nat → Nat → α) (g : Nat → Nat → β) : List.zipWith op (mk R C f) (mk R C g) = mk R C (fun i k => op (f i k) (g i k)) :=
  mk_ext _ _ (by rw [List.length_zipWith, mk_len, mk_len, Nat.min_self]) fun i k hi hk => by rw [List.getElem?_zipWith, mk_get f hi hk, mk_get g hi hk]
/-- Columns of one, then of another one. -/
def besideM {α : Type} (C : Nat) (f g : Nat → Nat → α) (i k : Nat) : α := if k < C then f i k else g i (k - C)
theorem rowM_beside {α : Type} (C D : Nat) (f g : Nat → Nat → α) (i : Nat) : rowM (C + D) (besideM C f g) i = rowM C f i ++ rowM D g i := by
  refine List.ext_getElem? fun k => ?_
  by_cases h : k < C
  · rw [rowM_get _ _ (by omega), List.getElem?_append_left (by rw [rowM_len]; exact h), rowM_get _ _ h]
    simp [besideM, h]
  · rw [List.getElem?_append_right (by rw [rowM_len]; omega), rowM_len]
    by_cases h2 : k < C + D
    · rw [rowM_get _ _ h2, rowM_get _ _ (by omega)]
      simp [besideM, h]
    · rw [List.getElem?_eq_none_iff.2 (by rw [rowM_len]; omega), List.getElem?_eq_none_iff.2 (by rw [rowM_len]; omega)]
theorem rowM_turn {α : Type} (R : Nat) (f : Nat → Nat → α) (k : Nat) : rowM R (fun i j => f j i) k = colM R f k := rfl
theorem mk_take {α : Type} (R C : Nat) (f : Nat → Nat → α) {i : Nat} (hi : i ≤ R) : (mk R C f).take (i * C) = mk i C f := by
  induction R with
  | zero => obtain rfl : i = 0 := by omega
            simp [mk]
  | succ R ih =>
    by_cases h : i ≤ R
    · rw [mk_succ, List.take_append_of_le_length (by rw [mk_len]; exact Nat.mul_le_mul_right _ h), ih h]
    · obtain rfl : i = R + 1 := by omega
      rw [List.take_of_length_le (by rw [mk_len]; omega)]
/-- Sides that may be. -/
structure Dim (R C : Nat) : Prop where
  r1 : 1 ≤ R
  r2 : R ≤ 16
  c1 : 1 ≤ C
  c2 : C ≤ 16
theorem Dim.turn {R C : Nat} (h : Dim R C) : Dim C R := ⟨h.c1, h.c2, h.r1, h.r2⟩
theorem Dim.lt {R C : Nat} (h : Dim R C) : R * C ≤ 256 := Nat.mul_le_mul h.r2 h.c2
/-- Whether so many numbers make a matrix of these sides. -/
def fitB (r c n : Int) : Bool := decide (1 ≤ r ∧ r ≤ 16 ∧ 1 ≤ c ∧ c ≤ 16 ∧ n = r * c)
theorem fitB_nat {r c : Int} {n : Nat} (h : fitB r c n = true) : ∃ R C : Nat, r = R ∧ c = C ∧ Dim R C ∧ n = R * C := by
  obtain ⟨h1, h2, h3, h4, h5⟩ := of_decide_eq_true h
  refine ⟨r.toNat, c.toNat, by omega, by omega, ⟨by omega, by omega, by omega, by omega⟩, ?_⟩
  have e1 : (r.toNat : Int) = r := by omega
  have e2 : (c.toNat : Int) = c := by omega
  rw [← e1, ← e2, ← Int.natCast_mul] at h5
  exact Int.ofNat.inj h5
theorem fitB_dim {R C n : Nat} (h : Dim R C) (hn : n = R * C) : fitB R C n = true := by
  obtain ⟨h1, h2, h3, h4⟩ := h
  subst hn
  exact decide_eq_true ⟨by omega, by omega, by omega, by omega, Int.natCast_mul R C⟩
end Go.Proofs.Ytokbmbgiimbkpaa

/- Contracts of mat's side, fits, among; matrices in memory (layer 6). -/
namespace Go.Proofs.Ytokbmbgiimbkpaa
open Go.RowKit
set_option linter.unusedSimpArgs false
set_option linter.unusedVariables false

/-- Whether there may be so many. -/
def sideB (n : Int) : Bool := decide (1 ≤ n ∧ n ≤ 16)
theorem sideB_t {n : Int} (h : sideB n = true) : 1 ≤ n ∧ n ≤ 16 := of_decide_eq_true h
theorem side_any (n : Int) (w : World) : Calls Try.prog 45 #[.int .i64 n] w fun e w' => e = .returned (.bool (sideB n)) ∧ w' = w := by
  by_cases h : 1 ≤ n
  · by_cases h2 : n ≤ 16
    · go_enter Try.func45, Try.ntmps45
      go_wp2
      go_ret
      exact ⟨by simp [sideB, h, h2], rfl⟩
    · go_enter Try.func45, Try.ntmps45
      go_wp2
      go_ret
      exact ⟨by simp [sideB, h, h2], rfl⟩
  · go_enter Try.func45, Try.ntmps45
    go_wp2
    go_ret
    exact ⟨by simp [sideB]; omega, rfl⟩
/-- Whether it is one of so many places. -/
def amongB (i n : Int) : Bool := decide (0 ≤ i ∧ i < n)
theorem among_any (i n : Int) (w : World) : Calls Try.prog 36 #[.int .i64 i, .int .i64 n] w fun e w' => e = .returned (.bool (amongB i n)) ∧ w' = w := by
  by_cases h : 0 ≤ i
  · by_cases h2 : i < n
    · go_enter Try.func36, Try.ntmps36
      go_wp2
      go_ret
      exact ⟨by simp [amongB, h, h2], rfl⟩
    · go_enter Try.func36, Try.ntmps36
      go_wp2
      go_ret
      exact ⟨by simp [amongB, h, h2], rfl⟩
  · go_enter Try.func36, Try.ntmps36
    go_wp2
    go_ret
    exact ⟨by simp [amongB]; omega, rfl⟩
theorem mul_16 {r c : Int} (h1 : 1 ≤ r) (h2 : r ≤ 16) (h3 : 1 ≤ c) (h4 : c ≤ 16) : 0 ≤ r * c ∧ r * c ≤ 256 :=
  ⟨Int.mul_nonneg (by omega) (by omega), Int.mul_le_mul h2 h4 (by omega) (by omega)⟩
theorem fits_any (r c n : Int) (w : World) : Calls Try.prog 34 #[.int .i64 r, .int .i64 c, .int .i64 n] w fun e w' => e = .returned (.bool (fitB r c n)) ∧ w' = w := by
  by_cases h : 1 ≤ r ∧ r ≤ 16
  · have hs : sideB r = true := decide_eq_true h
    by_cases h2 : 1 ≤ c ∧ c ≤ 16
    · have hs2 : sideB c = true := decide_eq_true h2
      have hm := mul_16 h.1 h.2 h2.1 h2.2
      have hf : fitB r c n = decide (n = r * c) := by simp [fitB, h, h2]
      rw [hf]
      generalize hq : r * c = q at *
      have hw : wrap64 q = q := by unfold wrap64; omega
      clear hf
      go_enter Try.func34, Try.ntmps34
      go_wp2_with fail
      refine (side_any _ _).mono ?_
      rintro e w1 ⟨rfl, rfl⟩
      rw [hs]
      go_wp2_with fail
      refine (side_any _ _).mono ?_
      rintro e w1 ⟨rfl, rfl⟩
      rw [hs2]
      go_wp2
      go_ret
      exact ⟨by simp only [hq, hw]; rw [show (n == q) = decide (n = q) from rfl]; rfl, rfl⟩
    · have hs2 : sideB c = false := decide_eq_false h2
      have hf : fitB r c n = false := by simp [fitB]; omega
      rw [hf]
      go_enter Try.func34, Try.ntmps34
      go_wp2_with fail
      refine (side_any _ _).mono ?_
      rintro e w1 ⟨rfl, rfl⟩
      rw [hs]
      go_wp2_with fail
      refine (side_any _ _).mono ?_
      rintro e w1 ⟨rfl, rfl⟩
      rw [hs2]
      go_wp2
      go_ret
      exact ⟨rfl, rfl⟩
  · have hs : sideB r = false := decide_eq_false h
    have hf : fitB r c n = false := by simp [fitB]; omega
    rw [hf]
    go_enter Try.func34, Try.ntmps34
    go_wp2_with fail
    refine (side_any _ _).mono ?_
    rintro e w1 ⟨rfl, rfl⟩
    rw [hs]
    go_wp2
    go_ret
    exact ⟨rfl, rfl⟩
/-- A matrix as a value. -/
abbrev mV (r c : Int) (p : Option Addr) (n cap : Nat) : Value := .agg #[.int .i64 r, .int .i64 c, .slice p n cap]
/-- A matrix in a block. -/
structure MBox (w : World) (b : Nat) (r c : Int) (p : Option Addr) (n cap : Nat) : Prop where
  c0 : w.cell? ⟨b, 0, none⟩ = some (.int .i64 r)
  c1 : w.cell? ⟨b, 1, none⟩ = some (.int .i64 c)
  c2 : w.cell? ⟨b, 2, none⟩ = some (.slice p n cap)
  f0 : w.frozen? ⟨b, 0, none⟩ = false
  f1 : w.frozen? ⟨b, 1, none⟩ = false
  f2 : w.frozen? ⟨b, 2, none⟩ = false
  lt : b < w.heap.size
theorem MBox.later {w w' : World} {b : Nat} {r c : Int} {p : Option Addr} {n cap : Nat} (h : MBox w b r c p n cap) (k : Bl w w') : MBox w' b r c p n cap := by
  have := h.lt
  refine ⟨?_, ?_, ?_, ?_, ?_, ?_, by have := Below.size k; omega⟩
  · rw [bl_cell k _ _ this]; exact h.c0
  · rw [bl_cell k _ _ this]; exact h.c1
  · rw [bl_cell k _ _ this]; exact h.c2
  · rw [bl_froz k _ _ this]; exact h.f0
  · rw [bl_froz k _ _ this]; exact h.f1
  · rw [bl_froz k _ _ this]; exact h.f2
theorem MBox.new (w : World) (r c : Int) (p : Option Addr) (n cap : Nat) (t : TypeId) : MBox (w.alloc (.cells #[.int .i64 r, .int .i64 c, .slice p n cap] t)) w.heap.size r c p n cap := by
  refine ⟨?_, ?_, ?_, ?_, ?_, ?_, by simp⟩ <;> simp [go_sem]
theorem Bl.put3 {a b : World} (h : Bl a b) {n : Nat} (hn : a.heap.size ≤ n) (v0 v1 v2 : Value) : Bl a (((b.setCell ⟨n, 0, none⟩ v0).setCell ⟨n, 1, none⟩ v1).setCell ⟨n, 2, none⟩ v2) :=
  Bl.set (Bl.set (Bl.set h hn _) hn _) hn _
theorem MBox.fill {u : World} {b : Nat} {r c : Int} {p : Option Addr} {n cap : Nat} (h : MBox u b r c p n cap) (r' c' : Int) (p' : Option Addr) (n' cap' : Nat) :
    MBox (((u.setCell ⟨b, 0, none⟩ (.int .i64 r')).setCell ⟨b, 1, none⟩ (.int .i64 c')).setCell ⟨b, 2, none⟩ (.slice p' n' cap')) b r' c' p' n' cap' := by
  obtain ⟨c0, c1, c2, f0, f1, f2, lt⟩ := h
  refine ⟨?_, ?_, ?_, ?_, ?_, ?_, ?_⟩ <;> simp [go_sem, *]
theorem MBox.own {X Y : World} {b : Nat} {r c : Int} {p : Option Addr} {n cap : Nat} {row : Option Nat} (h : MBox X b r c p n cap) (hg : X.grownBy Y row) (hr : ∀ q, row = some q → ∃ o : Obj, X.heap[q]? = some o ∧ o.isCells = false) : MBox Y b r c p n cap :=
  ⟨cell_kept h.c0 hg hr, cell_kept h.c1 hg hr, cell_kept h.c2 hg hr, (frozen_kept h.c0 hg hr).trans h.f0, (frozen_kept h.c1 hg hr).trans h.f1, (frozen_kept h.c2 hg hr).trans h.f2, by have := h.lt; have := hg.size; omega⟩
theorem MBox.span {w w' : World} {b lo hi : Nat} {r c : Int} {p : Option Addr} {n cap : Nat} (h : MBox w b r c p n cap) (k : Span lo hi w w') (h1 : lo ≤ b) (h2 : b < hi) : MBox w' b r c p n cap :=
  ⟨(k.cell _ _ h1 h2).trans h.c0, (k.cell _ _ h1 h2).trans h.c1, (k.cell _ _ h1 h2).trans h.c2,
    (World.frozen?_of_block (a := ⟨b, 0, none⟩) (k.block b h1 h2)).trans h.f0, (World.frozen?_of_block (a := ⟨b, 1, none⟩) (k.block b h1 h2)).trans h.f1, (World.frozen?_of_block (a := ⟨b, 2, none⟩) (k.block b h1 h2)).trans h.f2, by have := h.lt; have := k.size; omega⟩
/-- A row that came in, and a place of its block behind another row's growth. -/
theorem Rq.span {α : Type} {s : Nat} {c : α → List Value} {w w' : World} {v : Value} {xs : List α} {lo hi : Nat} (h : Rq s c w v xs) (hf : ∀ g, v.ownBlock = some g → lo ≤ g ∧ g < hi) (k : Span lo hi w w') : Rq s c w' v xs := by
  rcases h with h | ⟨b, o, cap, rfl, hc, hb, hx⟩
  · exact .inl h
  · have hne := hf b rfl
    exact .inr ⟨b, o, cap, rfl, hc, Nat.lt_of_lt_of_le hb k.size, fun j x hj i v hv => (k.cell b _ hne.1 hne.2).trans (hx j x hj i v hv)⟩
/-- A part of a row: from lo on, m numbers. -/
theorem Rq.part {α : Type} {s : Nat} {c : α → List Value} {w : World} {b o n cap lo m : Nat} {xs : List α} (h : Rq s c w (.slice (some ⟨b, o, none⟩) n cap) xs) (hn : xs.length = n) (hlo : lo + m ≤ n) (hm : 0 < m) (cap' : Nat) (hc' : m ≤ cap') :
    Rq s c w (.slice (some ⟨b, o + lo * s, none⟩) m cap') ((xs.drop lo).take m) := by
  rcases h with ⟨p, cap0, e, rfl, _⟩ | ⟨b0, o0, cap0, e, hc, hb, hx⟩
  · simp at hn; omega
  · cases e
    refine .inr ⟨b, o + lo * s, cap', by simp; omega, by simp; omega, hb, fun j x hj k u hu => ?_⟩
    rw [List.getElem?_take] at hj
    split at hj
    · rw [List.getElem?_drop] at hj
      have := hx _ x hj k u hu
      rw [show o + lo * s + j * s + k = o + (lo + j) * s + k by rw [Nat.add_mul]; omega]
      exact this
    · cases hj
/-- A matrix that may be: its numbers are told by f. -/
def Mx {α : Type} (s : Nat) (c : α → List Value) (w : World) (R C : Nat) (p : Option Addr) (n cap : Nat) (f : Nat → Nat → α) : Prop := Dim R C ∧ n = R * C ∧ Rq s c w (.slice p n cap) (mk R C f)
theorem Mx.later {α : Type} {s : Nat} {c : α → List Value} {w w' : World} {R C : Nat} {p : Option Addr} {n cap : Nat} {f : Nat → Nat → α} (h : Mx s c w R C p n cap f) (k : Bl w w') : Mx s c w' R C p n cap f := ⟨h.1, h.2.1, h.2.2.later k⟩
theorem Mx.fit {α : Type} {s : Nat} {c : α → List Value} {w : World} {R C : Nat} {p : Option Addr} {n cap : Nat} {f : Nat → Nat → α} (h : Mx s c w R C p n cap f) : fitB R C n = true := fitB_dim h.1 h.2.1
theorem Mx.pos {R C n : Nat} (h : Dim R C) (hn : n = R * C) : 0 < n := by subst hn; exact Nat.mul_pos h.r1 h.c1
theorem Mx.cells {α : Type} {s : Nat} {c : α → List Value} {w : World} {R C : Nat} {p : Option Addr} {n cap : Nat} {f : Nat → Nat → α} (h : Mx s c w R C p n cap f) :
    ∃ b o, p = some ⟨b, o, none⟩ ∧ n ≤ cap ∧ b < w.heap.size ∧ ∀ i k, i < R → k < C → ∀ j u, (c (f i k))[j]? = some u → w.cell? ⟨b, o + (i * C + k) * s + j, none⟩ = some u := by
  obtain ⟨hd, hn, h⟩ := h
  have h0 := Mx.pos hd hn
  rcases h with ⟨p', cap', e, e2, _⟩ | ⟨b, o, cap', e, hc, hb, hx⟩
  · have := mk_len R C f
    rw [e2] at this
    simp at this
    omega
  · cases e
    refine ⟨b, o, rfl, by rw [mk_len] at hc; omega, hb, fun i k hi hk j u hu => hx _ _ (mk_get f hi hk) j u hu⟩
theorem amongB_t {i n : Nat} (h : i < n) : amongB i n = true := decide_eq_true ⟨by omega, by omega⟩
theorem amongB_f {i : Int} {n : Int} (h : ¬ (0 ≤ i ∧ i < n)) : amongB i n = false := decide_eq_false h
/-- The place of a number. -/
theorem place {R C i k : Nat} (h : Dim R C) (hi : i < R) (hk : k < C) : ∃ a q : Nat, a = i * C ∧ q = i * C + k ∧ (i : Int) * (C : Int) = a ∧ (a : Int) + (k : Int) = q ∧ q < R * C ∧ a ≤ 256 :=
  ⟨i * C, i * C + k, rfl, rfl, by simp, by simp, mk_idx hi hk, by have := mk_idx hi hk; have := h.lt; omega⟩
/-- The places of a row. -/
theorem places {R C i : Nat} (h : Dim R C) (hi : i < R) : ∃ a e : Nat, a = i * C ∧ e = a + C ∧ (i : Int) * (C : Int) = a ∧ ((i : Int) + 1) * (C : Int) = e ∧ e ≤ R * C ∧ a ≤ 256 ∧ e ≤ 256 := by
  have h1 : (i + 1) * C ≤ R * C := Nat.mul_le_mul_right _ hi
  have h2 := h.lt
  rw [Nat.succ_mul] at h1
  exact ⟨i * C, i * C + C, rfl, rfl, by simp, by rw [Int.add_mul]; simp, h1, by omega, by omega⟩
theorem mbox_block {w w' : World} {b : Nat} {r c : Int} {p : Option Addr} {n cap : Nat} (h : MBox w b r c p n cap) (hk : w'.heap[b]? = w.heap[b]?) (hs : w.heap.size ≤ w'.heap.size) : MBox w' b r c p n cap :=
  ⟨(World.cell?_of_block (a := ⟨b, 0, none⟩) hk).trans h.c0, (World.cell?_of_block (a := ⟨b, 1, none⟩) hk).trans h.c1, (World.cell?_of_block (a := ⟨b, 2, none⟩) hk).trans h.c2, (World.frozen?_of_block (a := ⟨b, 0, none⟩) hk).trans h.f0, (World.frozen?_of_block (a := ⟨b, 1, none⟩) hk).trans h.f1, (World.frozen?_of_block (a := ⟨b, 2, none⟩) hk).trans h.f2, by have := h.lt; omega⟩
/-- A matrix's block that lies below n₀ abides an append to a row that lies at or beyond it. -/
theorem MBox.grown {n₀ m b s : Nat} {e : TypeId} {w w1 : World} {v : Value} {l : List Value} {r c : Int} {p : Option Addr} {n cap : Nat} (h : MBox w b r c p n cap) (hown : w.ownsRow n₀ e s v m l) (hg : w.grownBy w1 v.ownBlock) (hb : b < n₀) : MBox w1 b r c p n cap :=
  mbox_block h (hg.block b h.lt (fun e => by have := (hown.lt b e.symm).1; omega)) hg.size
/-- Behind an append to a row that lies at or beyond n₀. -/
theorem own_more {α : Type} {s n₀ : Nat} {t : TypeId} {c : α → List Value} {w wr w1 : World} {v v' : Value} {xs ys : List α} {m : Nat} (hb : Bl w wr) (hn : w.heap.size ≤ n₀) (hown : wr.ownsRow n₀ t s v xs.length (xs.flatMap c))
    (hown' : w1.ownsRow n₀ t s v' (xs.length + m) (xs.flatMap c ++ ys.flatMap c)) (hm : ys.length = m) (hg : wr.grownBy w1 v.ownBlock) :
    Bl w w1 ∧ w1.ownsRow n₀ t s v' (xs ++ ys).length ((xs ++ ys).flatMap c) := by
  refine ⟨Below.grown hb hg hb.size (fun k hk => by have := (hown.lt k hk).1; omega), ?_⟩
  subst hm
  simpa [List.flatMap_append] using hown'
/-- A matrix in the variable that an iterator over its rows has captured: all of it lies from lo up to hi. -/
structure KeptIn {α : Type} (s : Nat) (c : α → List Value) (w : World) (lo hi B R C : Nat) (p : Option Addr) (n cap : Nat) (f : Nat → Nat → α) : Prop where
  hd : Dim R C
  hn : n = R * C
  box : MBox w B R C p n cap
  h1 : lo ≤ B
  h2 : B < hi
  row : Rw s c w (.slice p n cap) (mk R C f)
  own : ∀ g, (Value.slice p n cap).ownBlock = some g → lo ≤ g ∧ g < hi
theorem KeptIn.later {α : Type} {s : Nat} {c : α → List Value} {w w' : World} {lo hi B R C : Nat} {p : Option Addr} {n cap : Nat} {f : Nat → Nat → α} (h : KeptIn s c w lo hi B R C p n cap f) (k : Span lo hi w w') : KeptIn s c w' lo hi B R C p n cap f :=
  ⟨h.hd, h.hn, h.box.span k h.h1 h.h2, h.h1, h.h2, h.row.span h.own k, h.own⟩
theorem KeptIn.mx {α : Type} {s : Nat} {c : α → List Value} {w : World} {lo hi B R C : Nat} {p : Option Addr} {n cap : Nat} {f : Nat → Nat → α} (h : KeptIn s c w lo hi B R C p n cap f) : Mx s c w R C p n cap f := ⟨h.hd, h.hn, h.row.q⟩
/-- What an iterator over a matrix's rows tells of a row: its place, its address, its room. -/
abbrev RowX := Nat × Option Addr × Nat
abbrev rowV (C : Nat) (x : RowX) : Value := .slice x.2.1 C x.2.2
/-- What holds of it. -/
def RowOk {α : Type} (s : Nat) (c : α → List Value) (R C : Nat) (f : Nat → Nat → α) (x : RowX) (W0 W : World) : Prop :=
  Bl W0 W ∧ x.1 < R ∧ Rw s c W (rowV C x) (rowM C f x.1) ∧ Fresh W0.heap.size (rowV C x) ∧ C ≤ x.2.2
theorem range_pre {k R : Nat} (h : k ≤ R) : List.range k <+: List.range R := by
  obtain ⟨d, rfl⟩ := Nat.exists_eq_add_of_le h
  rw [List.range_add]
  exact List.prefix_append _ _
/-- What is told of all rows that have come. -/
def rowsL {α : Type} (D : Nat) (h : Nat → Nat → α) (pre : List RowX) : List α := pre.flatMap fun x => rowM D h x.1
theorem rowsL_snoc {α : Type} (D : Nat) (h : Nat → Nat → α) (pre : List RowX) (x : RowX) : rowsL D h (pre ++ [x]) = rowsL D h pre ++ rowM D h x.1 := by simp [rowsL]
theorem rowsL_all {α : Type} {R : Nat} (D : Nat) (h : Nat → Nat → α) (zs : List RowX) (e : zs.map (·.1) = List.range R) : rowsL D h zs = mk R D h := by
  unfold rowsL mk
  rw [← e, List.flatMap_map]
theorem rowsL_len {α : Type} (D : Nat) (h : Nat → Nat → α) (pre : List RowX) : (rowsL D h pre).length = pre.length * D := by
  induction pre with
  | nil => simp [rowsL]
  | cons x pre ih => unfold rowsL at ih ⊢; rw [List.flatMap_cons, List.length_append, ih, rowM_len, List.length_cons, Nat.succ_mul]; omega
/-- What is told of all columns that have come, of one row. -/
theorem cols_all {α : Type} {D : Nat} (h : Nat → Nat → α) (i : Nat) (zs : List RowX) (e : zs.map (·.1) = List.range D) : zs.map (fun y => h i y.1) = rowM D h i := by
  unfold rowM
  rw [← e, List.map_map]
  rfl
/-- Of all rows that have come, and of some columns of one more. -/
def partL {α : Type} (D : Nat) (h : Nat → Nat → α) (pre : List RowX) (i : Nat) (pre2 : List RowX) : List α := rowsL D h pre ++ pre2.map (fun y => h i y.1)
theorem partL_nil {α : Type} (D : Nat) (h : Nat → Nat → α) (pre : List RowX) (i : Nat) : partL D h pre i [] = rowsL D h pre := by simp [partL]
theorem partL_snoc {α : Type} (D : Nat) (h : Nat → Nat → α) (pre : List RowX) (i : Nat) (pre2 : List RowX) (y : RowX) : partL D h pre i (pre2 ++ [y]) = partL D h pre i pre2 ++ [h i y.1] := by simp [partL]
theorem partL_all {α : Type} (D : Nat) (h : Nat → Nat → α) (pre : List RowX) (x : RowX) (zs : List RowX) (e : zs.map (·.1) = List.range D) : partL D h pre x.1 zs = rowsL D h (pre ++ [x]) := by
  rw [rowsL_snoc, partL, cols_all h x.1 zs e]
theorem partL_len {α : Type} (D : Nat) (h : Nat → Nat → α) (pre : List RowX) (i : Nat) (pre2 : List RowX) : (partL D h pre i pre2).length = pre.length * D + pre2.length := by
  rw [partL, List.length_append, rowsL_len, List.length_map]
end Go.Proofs.Ytokbmbgiimbkpaa

/- A region that draws its order, inside a fence: by what holds once each operation has come up, whatever their order, over any frame; its operations, one by one. -/
namespace Go.Proofs.Ytokbmbgiimbkpaa
open Go.RowKit
set_option linter.unusedSimpArgs false
set_option linter.unusedVariables false

theorem eval_put_same {a : Act} {d : Nat} {v : Value} (h : d < a.tmps.size) : (a.put (some d) v).eval (.tmp d) = v := by
  simp [Act.put, Act.eval, Array.getD, h]
theorem eval_put_other {a : Act} {d s : Nat} {v : Value} (h : s ≠ d) : (a.put (some d) v).eval (.tmp s) = a.eval (.tmp s) := by
  simp only [Act.put, Act.eval, Array.getD_eq_getD_getElem?]
  rw [Array.getElem?_setIfInBounds_ne (Ne.symm h)]
theorem size_put {a : Act} {d : Option Nat} {v : Value} : (a.put d v).tmps.size = a.tmps.size := by cases d <;> simp [Act.put]
theorem defers_put {a : Act} {d : Option Nat} {v : Value} : (a.put d v).defers = a.defers := by cases d <;> simp [Act.put]

/-- How many are yet to come. -/
def leftN (l : List Bool) : Nat := (l.filter (· == false)).length
theorem leftN_set : ∀ (l : List Bool) (i : Nat), l[i]? = some false → leftN l = leftN (l.set i true) + 1
  | [], i, h => by simp at h
  | b :: l, 0, h => by simp at h; subst h; simp [leftN]
  | b :: l, i + 1, h => by
    have := leftN_set l i (by simpa using h)
    cases b <;> simp [leftN] at this ⊢ <;> omega
theorem leftN_zero : ∀ (l : List Bool), leftN l = 0 → ∀ i, i < l.length → l[i]? = some true
  | [], _, i, h => by simp at h
  | b :: l, h0, i, h => by
    cases b with
    | false => simp [leftN] at h0
    | true =>
      cases i with
      | zero => simp
      | succ i =>
        have h' : leftN l = 0 := by simpa [leftN] using h0
        have := leftN_zero l h' i (by simpa using h)
        simpa using this
theorem leftN_pos : ∀ (l : List Bool), 0 < leftN l → ∃ i : Nat, l[i]? = some false ∧ ∀ j : Nat, j < i → l[j]? = some true
  | [], h => by simp [leftN] at h
  | b :: l, h => by
    cases b with
    | false => exact ⟨0, by simp, fun j hj => by omega⟩
    | true =>
      obtain ⟨i, h1, h2⟩ := leftN_pos l (by simpa [leftN] using h)
      exact ⟨i + 1, by simpa using h1, fun j hj => by
        cases j with
        | zero => simp
        | succ j => simpa using h2 j (by omega)⟩
theorem leftN_rep (n : Nat) : leftN (List.replicate n false) = n := by simp [leftN]

/-- I L: those of L have come up. -/
theorem region_facts {F : Fence} {n : Nat} {P : Program} {ops : Array Oper} {Q : Exit → Act → World → Prop} {a : Act} {w : World} {id : Nat} (hm : P.follows .mixedOrders = true)
    (hlow : ∀ (i : Nat) (o : Oper), ops[i]? = some o → ∀ e ∈ o.after, e.on < i) (I : (Nat → Bool) → Act → World → Prop) (h0 : I (fun _ => false) a w.drew)
    (step : ∀ (L : Nat → Bool) (act : Act) (u : World) (i : Nat) (o : Oper), I L act u → ops[i]? = some o → L i = false → (∀ e ∈ o.after, Region.binds .any e = true → L e.on = true) → wpOpIn F n P ops Q i (I fun j => L j || (j == i)) act u)
    (fin : ∀ L act u, I L act u → (∀ j, j < ops.size → L j = true) → Q .normal act u) : (Code.region id ops true).wpIn F n P Q a w := by
  refine wpIn_region_any hm ?_
  have main := wpAnyIn_phase (F := F) (n := n) (P := P) (md := .any) (ops := ops) (Q := Q) (fuel := 0)
    (fun k l act u => l.size = ops.size ∧ k = leftN l.toList ∧ I (fun j => l.getD j false) act u) ?fin ?live ?step ops.size (Array.replicate ops.size false) a w.drew ⟨by simp, by simp [leftN_rep], ?start⟩
  case start =>
    have : (fun j => (Array.replicate ops.size false).getD j false) = (fun _ : Nat => false) := by
      funext j; simp [Array.getD]
    rw [this]; exact h0
  case fin =>
    rintro l act u ⟨hs, hk, hI⟩
    have hall := leftN_zero l.toList hk.symm
    have hl : ∀ j, j < ops.size → l.getD j false = true := fun j hj => by
      have := hall j (by simpa [hs] using hj)
      have h2 : l[j]? = some true := by simpa using this
      rw [Array.getD_eq_getD_getElem?, h2]; rfl
    refine wpAnyIn_done ?_ (fin _ act u hI hl) 0
    rw [List.eq_nil_iff_forall_not_mem]
    intro i hi
    obtain ⟨h1, o, ho, _⟩ := mem_ready.1 hi
    have hlt := (Array.getElem?_eq_some_iff.1 ho).1
    have := hl i hlt
    rw [Array.getD_eq_getD_getElem?] at this h1
    cases e : l[i]? <;> simp_all
  case live =>
    rintro k l act u ⟨hs, hk, hI⟩ hr
    obtain ⟨i, h1, h2⟩ := leftN_pos l.toList (by omega)
    have hi : i < l.size := by have := (List.getElem?_eq_some_iff.1 h1).1; simpa using this
    rw [List.eq_nil_iff_forall_not_mem] at hr
    refine hr i (mem_ready.2 ⟨?_, ops[i]'(by omega), Array.getElem?_eq_getElem _, fun e he _ => ?_⟩)
    · have h3 : l[i]? = some false := by simpa using h1
      rw [Array.getD_eq_getD_getElem?, h3]; rfl
    · have h4 := hlow i _ (Array.getElem?_eq_getElem (by omega)) e he
      have h3 : l[e.on]? = some true := by simpa using h2 _ h4
      rw [Array.getD_eq_getD_getElem?, h3]; rfl
  case step =>
    rintro k l act u i ⟨hs, hk, hI⟩ hi hall
    have hlt := getD_lt' hi
    have hli : l[i]? = some false := by
      rw [Array.getD_eq_getD_getElem?] at hi
      rw [Array.getElem?_eq_getElem hlt] at hi ⊢
      simpa using hi
    have hw := step _ act u i (ops[i]'(by omega)) hI (Array.getElem?_eq_getElem _) (by show l.getD i false = false; rw [Array.getD_eq_getD_getElem?, hli]; rfl) (fun e he hb => hall e ⟨_, Array.getElem?_eq_getElem _, he⟩ hb)
    refine wpOpIn_mono (fun a' w' h' => ⟨by simp [hs], ?_, ?_⟩) hw
    · have := leftN_set l.toList i (by simpa using hli)
      rw [Array.toList_setIfInBounds]
      omega
    · have : (fun j => (l.setIfInBounds i true).getD j false) = (fun j => l.getD j false || (j == i)) := by
        funext j
        by_cases hj : j = i
        · subst hj
          simp [Array.getD, hlt]
        · rw [Array.getD_eq_getD_getElem?, Array.getElem?_setIfInBounds_ne (fun e => hj e.symm), ← Array.getD_eq_getD_getElem?]
          simp [hj]
      rw [this]; exact h'
  rw [Nat.zero_add] at main
  exact main
/-- Each waits for earlier ones alone. -/
def lowB (ops : Array Oper) : Bool := (List.range ops.size).all fun i => match ops[i]? with
  | some o => o.after.all fun e => decide (e.on < i)
  | none => true
theorem lowB_low {ops : Array Oper} (h : lowB ops = true) : ∀ (i : Nat) (o : Oper), ops[i]? = some o → ∀ e ∈ o.after, e.on < i := by
  intro i o ho e he
  have h1 := List.all_eq_true.1 h i (by simpa using (Array.getElem?_eq_some_iff.1 ho).1)
  rw [ho] at h1
  simp only [Array.all_eq_true_iff_forall_mem] at h1
  exact of_decide_eq_true (h1 e he)
/-- An operation that is no part of a guarded stretch. -/
theorem step_wp {F : Fence} {n : Nat} {P : Program} {ops : Array Oper} {Q : Exit → Act → World → Prop} {i : Nat} {o : Oper} {K : Act → World → Prop} {a : Act} {w : World} (ho : ops[i]? = some o) (hg : o.guard = none) (h : Oper.wpIn F n P o a w K Q) : wpOpIn F n P ops Q i K a w := by
  unfold wpOpIn
  rw [ho]
  show if _ then _ else _
  rw [if_pos (by simp [Region.wanted, hg])]
  exact h
theorem plain_wp {F : Fence} {n : Nat} {P : Program} {o : Oper} {a : Act} {w w' : World} {K : Act → World → Prop} {Q : Exit → Act → World → Prop} {v : Value} (hd : ∀ c, o.op ≠ .defer c) (ha : ∀ f, o.about P w a.eval = some f → F.fn f)
    (hr : (execOp a.eval o).run P w = .ok (.value v) w') (hK : K (a.put o.dst v) w') : Oper.wpIn F n P o a w K Q := by
  unfold Oper.wpIn
  refine ⟨ha, ?_⟩
  rw [Oper.semAt_plain F _ _ hd, hr]
  exact hK
theorem skip_wp {F : Fence} {n : Nat} {P : Program} {o : Oper} {a : Act} {w w' : World} {K : Act → World → Prop} {Q : Exit → Act → World → Prop} (hd : ∀ c, o.op ≠ .defer c) (ha : ∀ f, o.about P w a.eval = some f → F.fn f)
    (hr : (execOp a.eval o).run P w = .ok .skip w') (hK : K (a.put o.dst undef) w') : Oper.wpIn F n P o a w K Q := by
  unfold Oper.wpIn
  refine ⟨ha, ?_⟩
  rw [Oper.semAt_plain F _ _ hd, hr]
  exact hK
theorem move_wp {F : Fence} {n : Nat} {P : Program} {o : Oper} {a : Act} {w : World} {K : Act → World → Prop} {Q : Exit → Act → World → Prop} (x : Operand) (ho : o.op = .move x) (hK : K (a.put o.dst (a.eval x)) w) : Oper.wpIn F n P o a w K Q :=
  plain_wp (by rw [ho]; intro c h; cases h) (by simp [Oper.about, ho]) (by simp [execOp, ho]) hK
theorem load_wp {F : Fence} {n : Nat} {P : Program} {o : Oper} {a : Act} {w : World} {K : Act → World → Prop} {Q : Exit → Act → World → Prop} (t : TypeId) (x : Operand) (ho : o.op = .load t x) {v : Value} (hr : (Instr.loadAt t (a.eval x)).run P w = .ok v w) (hK : K (a.put o.dst v) w) : Oper.wpIn F n P o a w K Q :=
  plain_wp (by rw [ho]; intro c h; cases h) (by simp [Oper.about, ho]) (by simp [execOp, ho, hr, Result.andThen]) hK
theorem store_wp {F : Fence} {n : Nat} {P : Program} {o : Oper} {a : Act} {w w' : World} {K : Act → World → Prop} {Q : Exit → Act → World → Prop} (t : TypeId) (x y : Operand) (ho : o.op = .store t x y) (hr : (Instr.storeAt t (a.eval x) (a.eval y)).run P w = .ok () w') (hK : K (a.put o.dst undef) w') : Oper.wpIn F n P o a w K Q :=
  skip_wp (by rw [ho]; intro c h; cases h) (by simp [Oper.about, ho]) (by simp [execOp, ho, hr, Result.andThen]) hK
theorem build_wp {F : Fence} {n : Nat} {P : Program} {o : Oper} {a : Act} {w w' : World} {K : Act → World → Prop} {Q : Exit → Act → World → Prop} (t : TypeId) (x : Operand) (ho : o.op = .buildSlice t 1 #[(0, x)]) {v : Value} (hr : (Instr.buildSlice t 1 #[(0, a.eval x)]).run P w = .ok v w') (hK : K (a.put o.dst v) w') : Oper.wpIn F n P o a w K Q :=
  plain_wp (by rw [ho]; intro c h; cases h) (by simp [Oper.about, ho]) (by simp [execOp, ho, hr, Result.andThen]) hK
theorem call2_wp {F : Fence} {n : Nat} {P : Program} {o : Oper} {a : Act} {w : World} {K : Act → World → Prop} {Q : Exit → Act → World → Prop} (f : Nat) (x y : Operand) (ts : Array TypeId) (ho : o.op = .call { callee := .value (.func f), args := #[x, y], argTypes := ts }) (hF : F.fn f) (h1 : F.depth.isSome = true → 1 ≤ n)
    (eg : ∀ args w, (callFunc f args).run P w = .ok (.enter f args) w) {R : Ending → World → Prop} (hc : CallsIn F (n - 1) P f #[a.eval x, a.eval y] w R) (hK : ∀ e w', R e w' → ∃ v, e = .returned v ∧ K (a.put o.dst v) w') : Oper.wpIn F n P o a w K Q := by
  have hr : ∀ ρ : Operand → Value, ρ (.func f) = .func (.func f) #[] #[] → (execOp ρ o).run P w = .ok (.enter f #[ρ x, ρ y]) w ∧ ∀ g, o.about P w ρ = some g → f = g := by
    intro ρ e
    refine ⟨by simp [execOp, ho, resolve, invoke, e, eg, Result.andThen, go_sem], fun g hg => ?_⟩
    simp [Oper.about, ho, resolve, e, Target.leads, go_sem] at hg
    exact hg
  unfold Oper.wpIn
  refine ⟨fun g hg => (hr a.eval rfl).2 g hg ▸ hF, ?_⟩
  rw [Oper.semAt_plain F _ _ (by rw [ho]; intro c h; cases h), (hr a.eval rfl).1, Oper.uponIn_enter]
  refine ⟨h1, hc.mono ?_⟩
  intro e w' h
  obtain ⟨v, rfl, h2⟩ := hK e w' h
  exact h2
end Go.Proofs.Ytokbmbgiimbkpaa
