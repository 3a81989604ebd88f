/- Contracts of mat's side, fits, among; matrices in memory (layer 6). -/
import Derived.Test.YtljmggemdkfbiaaGreatMaM
namespace Go.Proofs.YtljmggemdkfbiaaGreat
open Go.RowKit
set_option linter.unusedSimpArgs false
set_option linter.unusedVariables false

/-- Whether there may be so many. -/
def sideB (n : Int) : Bool := decide (1 ≤ n ∧ n ≤ 16)
theorem sideB_t {n : Int} (h : sideB n = true) : 1 ≤ n ∧ n ≤ 16 := of_decide_eq_true h
theorem side_any (n : Int) (w : World) : Calls Tryz.prog 84 #[.int .i64 n] w fun e w' => e = .returned (.bool (sideB n)) ∧ w' = w := by
  by_cases h : 1 ≤ n
  · by_cases h2 : n ≤ 16
    · go_enter Tryz.func84, Tryz.ntmps84
      go_wp2
      go_ret
      exact ⟨by simp [sideB, h, h2], rfl⟩
    · go_enter Tryz.func84, Tryz.ntmps84
      go_wp2
      go_ret
      exact ⟨by simp [sideB, h, h2], rfl⟩
  · go_enter Tryz.func84, Tryz.ntmps84
    go_wp2
    go_ret
    exact ⟨by simp [sideB]; omega, rfl⟩
/-- Whether it is one of so many places. -/
def amongB (i n : Int) : Bool := decide (0 ≤ i ∧ i < n)
theorem among_any (i n : Int) (w : World) : Calls Tryz.prog 81 #[.int .i64 i, .int .i64 n] w fun e w' => e = .returned (.bool (amongB i n)) ∧ w' = w := by
  by_cases h : 0 ≤ i
  · by_cases h2 : i < n
    · go_enter Tryz.func81, Tryz.ntmps81
      go_wp2
      go_ret
      exact ⟨by simp [amongB, h, h2], rfl⟩
    · go_enter Tryz.func81, Tryz.ntmps81
      go_wp2
      go_ret
      exact ⟨by simp [amongB, h, h2], rfl⟩
  · go_enter Tryz.func81, Tryz.ntmps81
    go_wp2
    go_ret
    exact ⟨by simp [amongB]; omega, rfl⟩
theorem mul_16 {r c : Int} (h1 : 1 ≤ r) (h2 : r ≤ 16) (h3 : 1 ≤ c) (h4 : c ≤ 16) : 0 ≤ r * c ∧ r * c ≤ 256 :=
  ⟨Int.mul_nonneg (by omega) (by omega), Int.mul_le_mul h2 h4 (by omega) (by omega)⟩
theorem fits_any (r c n : Int) (w : World) : Calls Tryz.prog 40 #[.int .i64 r, .int .i64 c, .int .i64 n] w fun e w' => e = .returned (.bool (fitB r c n)) ∧ w' = w := by
  by_cases h : 1 ≤ r ∧ r ≤ 16
  · have hs : sideB r = true := decide_eq_true h
    by_cases h2 : 1 ≤ c ∧ c ≤ 16
    · have hs2 : sideB c = true := decide_eq_true h2
      have hm := mul_16 h.1 h.2 h2.1 h2.2
      have hf : fitB r c n = decide (n = r * c) := by simp [fitB, h, h2]
      rw [hf]
      generalize hq : r * c = q at *
      have hw : wrap64 q = q := by unfold wrap64; omega
      clear hf
      go_enter Tryz.func40, Tryz.ntmps40
      go_wp2_with fail
      refine (side_any _ _).mono ?_
      rintro e w1 ⟨rfl, rfl⟩
      rw [hs]
      go_wp2_with fail
      refine (side_any _ _).mono ?_
      rintro e w1 ⟨rfl, rfl⟩
      rw [hs2]
      go_wp2
      go_ret
      exact ⟨by simp only [hq, hw]; rw [show (n == q) = decide (n = q) from rfl]; rfl, rfl⟩
    · have hs2 : sideB c = false := decide_eq_false h2
      have hf : fitB r c n = false := by simp [fitB]; omega
      rw [hf]
      go_enter Tryz.func40, Tryz.ntmps40
      go_wp2_with fail
      refine (side_any _ _).mono ?_
      rintro e w1 ⟨rfl, rfl⟩
      rw [hs]
      go_wp2_with fail
      refine (side_any _ _).mono ?_
      rintro e w1 ⟨rfl, rfl⟩
      rw [hs2]
      go_wp2
      go_ret
      exact ⟨rfl, rfl⟩
  · have hs : sideB r = false := decide_eq_false h
    have hf : fitB r c n = false := by simp [fitB]; omega
    rw [hf]
    go_enter Tryz.func40, Tryz.ntmps40
    go_wp2_with fail
    refine (side_any _ _).mono ?_
    rintro e w1 ⟨rfl, rfl⟩
    rw [hs]
    go_wp2
    go_ret
    exact ⟨rfl, rfl⟩
/-- A matrix as a value. -/
abbrev mV (r c : Int) (p : Option Addr) (n cap : Nat) : Value := .agg #[.int .i64 r, .int .i64 c, .slice p n cap]
/-- A matrix in a block. -/
structure MBox (w : World) (b : Nat) (r c : Int) (p : Option Addr) (n cap : Nat) : Prop where
  c0 : w.cell? ⟨b, 0, none⟩ = some (.int .i64 r)
  c1 : w.cell? ⟨b, 1, none⟩ = some (.int .i64 c)
  c2 : w.cell? ⟨b, 2, none⟩ = some (.slice p n cap)
  f0 : w.frozen? ⟨b, 0, none⟩ = false
  f1 : w.frozen? ⟨b, 1, none⟩ = false
  f2 : w.frozen? ⟨b, 2, none⟩ = false
  lt : b < w.heap.size
theorem MBox.later {w w' : World} {b : Nat} {r c : Int} {p : Option Addr} {n cap : Nat} (h : MBox w b r c p n cap) (k : Bl w w') : MBox w' b r c p n cap := by
  have := h.lt
  refine ⟨?_, ?_, ?_, ?_, ?_, ?_, by have := Below.size k; omega⟩
  · rw [bl_cell k _ _ this]; exact h.c0
  · rw [bl_cell k _ _ this]; exact h.c1
  · rw [bl_cell k _ _ this]; exact h.c2
  · rw [bl_froz k _ _ this]; exact h.f0
  · rw [bl_froz k _ _ this]; exact h.f1
  · rw [bl_froz k _ _ this]; exact h.f2
theorem MBox.new (w : World) (r c : Int) (p : Option Addr) (n cap : Nat) (t : TypeId) : MBox (w.alloc (.cells #[.int .i64 r, .int .i64 c, .slice p n cap] t)) w.heap.size r c p n cap := by
  refine ⟨?_, ?_, ?_, ?_, ?_, ?_, by simp⟩ <;> simp [go_sem]
theorem Bl.put3 {a b : World} (h : Bl a b) {n : Nat} (hn : a.heap.size ≤ n) (v0 v1 v2 : Value) : Bl a (((b.setCell ⟨n, 0, none⟩ v0).setCell ⟨n, 1, none⟩ v1).setCell ⟨n, 2, none⟩ v2) :=
  Bl.set (Bl.set (Bl.set h hn _) hn _) hn _
theorem MBox.fill {u : World} {b : Nat} {r c : Int} {p : Option Addr} {n cap : Nat} (h : MBox u b r c p n cap) (r' c' : Int) (p' : Option Addr) (n' cap' : Nat) :
    MBox (((u.setCell ⟨b, 0, none⟩ (.int .i64 r')).setCell ⟨b, 1, none⟩ (.int .i64 c')).setCell ⟨b, 2, none⟩ (.slice p' n' cap')) b r' c' p' n' cap' := by
  obtain ⟨c0, c1, c2, f0, f1, f2, lt⟩ := h
  refine ⟨?_, ?_, ?_, ?_, ?_, ?_, ?_⟩ <;> simp [go_sem, *]
theorem MBox.own {X Y : World} {b : Nat} {r c : Int} {p : Option Addr} {n cap : Nat} {row : Option Nat} (h : MBox X b r c p n cap) (hg : X.grownBy Y row) (hr : ∀ q, row = some q → ∃ o : Obj, X.heap[q]? = some o ∧ o.isCells = false) : MBox Y b r c p n cap :=
  ⟨cell_kept h.c0 hg hr, cell_kept h.c1 hg hr, cell_kept h.c2 hg hr, (frozen_kept h.c0 hg hr).trans h.f0, (frozen_kept h.c1 hg hr).trans h.f1, (frozen_kept h.c2 hg hr).trans h.f2, by have := h.lt; have := hg.size; omega⟩
theorem MBox.span {w w' : World} {b lo hi : Nat} {r c : Int} {p : Option Addr} {n cap : Nat} (h : MBox w b r c p n cap) (k : Span lo hi w w') (h1 : lo ≤ b) (h2 : b < hi) : MBox w' b r c p n cap :=
  ⟨(k.cell _ _ h1 h2).trans h.c0, (k.cell _ _ h1 h2).trans h.c1, (k.cell _ _ h1 h2).trans h.c2,
    (World.frozen?_of_block (a := ⟨b, 0, none⟩) (k.block b h1 h2)).trans h.f0, (World.frozen?_of_block (a := ⟨b, 1, none⟩) (k.block b h1 h2)).trans h.f1, (World.frozen?_of_block (a := ⟨b, 2, none⟩) (k.block b h1 h2)).trans h.f2, by have := h.lt; have := k.size; omega⟩
/-- A row that came in, and a place of its block behind another row's growth. -/
theorem Rq.span {α : Type} {s : Nat} {c : α → List Value} {w w' : World} {v : Value} {xs : List α} {lo hi : Nat} (h : Rq s c w v xs) (hf : ∀ g, v.ownBlock = some g → lo ≤ g ∧ g < hi) (k : Span lo hi w w') : Rq s c w' v xs := by
  rcases h with h | ⟨b, o, cap, rfl, hc, hb, hx⟩
  · exact .inl h
  · have hne := hf b rfl
    exact .inr ⟨b, o, cap, rfl, hc, Nat.lt_of_lt_of_le hb k.size, fun j x hj i v hv => (k.cell b _ hne.1 hne.2).trans (hx j x hj i v hv)⟩
/-- A part of a row: from lo on, m numbers. -/
theorem Rq.part {α : Type} {s : Nat} {c : α → List Value} {w : World} {b o n cap lo m : Nat} {xs : List α} (h : Rq s c w (.slice (some ⟨b, o, none⟩) n cap) xs) (hn : xs.length = n) (hlo : lo + m ≤ n) (hm : 0 < m) (cap' : Nat) (hc' : m ≤ cap') :
    Rq s c w (.slice (some ⟨b, o + lo * s, none⟩) m cap') ((xs.drop lo).take m) := by
  rcases h with ⟨p, cap0, e, rfl, _⟩ | ⟨b0, o0, cap0, e, hc, hb, hx⟩
  · simp at hn; omega
  · cases e
    refine .inr ⟨b, o + lo * s, cap', by simp; omega, by simp; omega, hb, fun j x hj k u hu => ?_⟩
    rw [List.getElem?_take] at hj
    split at hj
    · rw [List.getElem?_drop] at hj
      have := hx _ x hj k u hu
      rw [show o + lo * s + j * s + k = o + (lo + j) * s + k by rw [Nat.add_mul]; omega]
      exact this
    · cases hj
/-- A matrix that may be: its numbers are told by f. -/
def Mx {α : Type} (s : Nat) (c : α → List Value) (w : World) (R C : Nat) (p : Option Addr) (n cap : Nat) (f : Nat → Nat → α) : Prop := Dim R C ∧ n = R * C ∧ Rq s c w (.slice p n cap) (mk R C f)
theorem Mx.later {α : Type} {s : Nat} {c : α → List Value} {w w' : World} {R C : Nat} {p : Option Addr} {n cap : Nat} {f : Nat → Nat → α} (h : Mx s c w R C p n cap f) (k : Bl w w') : Mx s c w' R C p n cap f := ⟨h.1, h.2.1, h.2.2.later k⟩
theorem Mx.fit {α : Type} {s : Nat} {c : α → List Value} {w : World} {R C : Nat} {p : Option Addr} {n cap : Nat} {f : Nat → Nat → α} (h : Mx s c w R C p n cap f) : fitB R C n = true := fitB_dim h.1 h.2.1
theorem Mx.pos {R C n : Nat} (h : Dim R C) (hn : n = R * C) : 0 < n := by subst hn; exact Nat.mul_pos h.r1 h.c1
theorem Mx.cells {α : Type} {s : Nat} {c : α → List Value} {w : World} {R C : Nat} {p : Option Addr} {n cap : Nat} {f : Nat → Nat → α} (h : Mx s c w R C p n cap f) :
    ∃ b o, p = some ⟨b, o, none⟩ ∧ n ≤ cap ∧ b < w.heap.size ∧ ∀ i k, i < R → k < C → ∀ j u, (c (f i k))[j]? = some u → w.cell? ⟨b, o + (i * C + k) * s + j, none⟩ = some u := by
  obtain ⟨hd, hn, h⟩ := h
  have h0 := Mx.pos hd hn
  rcases h with ⟨p', cap', e, e2, _⟩ | ⟨b, o, cap', e, hc, hb, hx⟩
  · have := mk_len R C f
    rw [e2] at this
    simp at this
    omega
  · cases e
    refine ⟨b, o, rfl, by rw [mk_len] at hc; omega, hb, fun i k hi hk j u hu => hx _ _ (mk_get f hi hk) j u hu⟩
theorem amongB_t {i n : Nat} (h : i < n) : amongB i n = true := decide_eq_true ⟨by omega, by omega⟩
theorem amongB_f {i : Int} {n : Int} (h : ¬ (0 ≤ i ∧ i < n)) : amongB i n = false := decide_eq_false h
/-- The place of a number. -/
theorem place {R C i k : Nat} (h : Dim R C) (hi : i < R) (hk : k < C) : ∃ a q : Nat, a = i * C ∧ q = i * C + k ∧ (i : Int) * (C : Int) = a ∧ (a : Int) + (k : Int) = q ∧ q < R * C ∧ a ≤ 256 :=
  ⟨i * C, i * C + k, rfl, rfl, by simp, by simp, mk_idx hi hk, by have := mk_idx hi hk; have := h.lt; omega⟩
/-- The places of a row. -/
theorem places {R C i : Nat} (h : Dim R C) (hi : i < R) : ∃ a e : Nat, a = i * C ∧ e = a + C ∧ (i : Int) * (C : Int) = a ∧ ((i : Int) + 1) * (C : Int) = e ∧ e ≤ R * C ∧ a ≤ 256 ∧ e ≤ 256 := by
  have h1 : (i + 1) * C ≤ R * C := Nat.mul_le_mul_right _ hi
  have h2 := h.lt
  rw [Nat.succ_mul] at h1
  exact ⟨i * C, i * C + C, rfl, rfl, by simp, by rw [Int.add_mul]; simp, h1, by omega, by omega⟩
theorem mbox_block {w w' : World} {b : Nat} {r c : Int} {p : Option Addr} {n cap : Nat} (h : MBox w b r c p n cap) (hk : w'.heap[b]? = w.heap[b]?) (hs : w.heap.size ≤ w'.heap.size) : MBox w' b r c p n cap :=
  ⟨(World.cell?_of_block (a := ⟨b, 0, none⟩) hk).trans h.c0, (World.cell?_of_block (a := ⟨b, 1, none⟩) hk).trans h.c1, (World.cell?_of_block (a := ⟨b, 2, none⟩) hk).trans h.c2, (World.frozen?_of_block (a := ⟨b, 0, none⟩) hk).trans h.f0, (World.frozen?_of_block (a := ⟨b, 1, none⟩) hk).trans h.f1, (World.frozen?_of_block (a := ⟨b, 2, none⟩) hk).trans h.f2, by have := h.lt; omega⟩
/-- A matrix's block that lies below n₀ abides an append to a row that lies at or beyond it. -/
theorem MBox.grown {n₀ m b s : Nat} {e : TypeId} {w w1 : World} {v : Value} {l : List Value} {r c : Int} {p : Option Addr} {n cap : Nat} (h : MBox w b r c p n cap) (hown : w.ownsRow n₀ e s v m l) (hg : w.grownBy w1 v.ownBlock) (hb : b < n₀) : MBox w1 b r c p n cap :=
  mbox_block h (hg.block b h.lt (fun e => by have := (hown.lt b e.symm).1; omega)) hg.size
/-- Behind an append to a row that lies at or beyond n₀. -/
theorem own_more {α : Type} {s n₀ : Nat} {t : TypeId} {c : α → List Value} {w wr w1 : World} {v v' : Value} {xs ys : List α} {m : Nat} (hb : Bl w wr) (hn : w.heap.size ≤ n₀) (hown : wr.ownsRow n₀ t s v xs.length (xs.flatMap c))
    (hown' : w1.ownsRow n₀ t s v' (xs.length + m) (xs.flatMap c ++ ys.flatMap c)) (hm : ys.length = m) (hg : wr.grownBy w1 v.ownBlock) :
    Bl w w1 ∧ w1.ownsRow n₀ t s v' (xs ++ ys).length ((xs ++ ys).flatMap c) := by
  refine ⟨Below.grown hb hg hb.size (fun k hk => by have := (hown.lt k hk).1; omega), ?_⟩
  subst hm
  simpa [List.flatMap_append] using hown'
/-- A matrix in the variable that an iterator over its rows has captured: all of it lies from lo up to hi. -/
structure KeptIn {α : Type} (s : Nat) (c : α → List Value) (w : World) (lo hi B R C : Nat) (p : Option Addr) (n cap : Nat) (f : Nat → Nat → α) : Prop where
  hd : Dim R C
  hn : n = R * C
  box : MBox w B R C p n cap
  h1 : lo ≤ B
  h2 : B < hi
  row : Rw s c w (.slice p n cap) (mk R C f)
  own : ∀ g, (Value.slice p n cap).ownBlock = some g → lo ≤ g ∧ g < hi
theorem KeptIn.later {α : Type} {s : Nat} {c : α → List Value} {w w' : World} {lo hi B R C : Nat} {p : Option Addr} {n cap : Nat} {f : Nat → Nat → α} (h : KeptIn s c w lo hi B R C p n cap f) (k : Span lo hi w w') : KeptIn s c w' lo hi B R C p n cap f :=
  ⟨h.hd, h.hn, h.box.span k h.h1 h.h2, h.h1, h.h2, h.row.span h.own k, h.own⟩
theorem KeptIn.mx {α : Type} {s : Nat} {c : α → List Value} {w : World} {lo hi B R C : Nat} {p : Option Addr} {n cap : Nat} {f : Nat → Nat → α} (h : KeptIn s c w lo hi B R C p n cap f) : Mx s c w R C p n cap f := ⟨h.hd, h.hn, h.row.q⟩
/-- What an iterator over a matrix's rows tells of a row: its place, its address, its room. -/
abbrev RowX := Nat × Option Addr × Nat
abbrev rowV (C : Nat) (x : RowX) : Value := .slice x.2.1 C x.2.2
/-- What holds of it. -/
def RowOk {α : Type} (s : Nat) (c : α → List Value) (R C : Nat) (f : Nat → Nat → α) (x : RowX) (W0 W : World) : Prop :=
  Bl W0 W ∧ x.1 < R ∧ Rw s c W (rowV C x) (rowM C f x.1) ∧ Fresh W0.heap.size (rowV C x) ∧ C ≤ x.2.2
theorem range_pre {k R : Nat} (h : k ≤ R) : List.range k <+: List.range R := by
  obtain ⟨d, rfl⟩ := Nat.exists_eq_add_of_le h
  rw [List.range_add]
  exact List.prefix_append _ _
/-- What is told of all rows that have come. -/
def rowsL {α : Type} (D : Nat) (h : Nat → Nat → α) (pre : List RowX) : List α := pre.flatMap fun x => rowM D h x.1
theorem rowsL_snoc {α : Type} (D : Nat) (h : Nat → Nat → α) (pre : List RowX) (x : RowX) : rowsL D h (pre ++ [x]) = rowsL D h pre ++ rowM D h x.1 := by simp [rowsL]
theorem rowsL_all {α : Type} {R : Nat} (D : Nat) (h : Nat → Nat → α) (zs : List RowX) (e : zs.map (·.1) = List.range R) : rowsL D h zs = mk R D h := by
  unfold rowsL mk
  rw [← e, List.flatMap_map]
theorem rowsL_len {α : Type} (D : Nat) (h : Nat → Nat → α) (pre : List RowX) : (rowsL D h pre).length = pre.length * D := by
  induction pre with
  | nil => simp [rowsL]
  | cons x pre ih => unfold rowsL at ih ⊢; rw [List.flatMap_cons, List.length_append, ih, rowM_len, List.length_cons, Nat.succ_mul]; omega
/-- What is told of all columns that have come, of one row. -/
theorem cols_all {α : Type} {D : Nat} (h : Nat → Nat → α) (i : Nat) (zs : List RowX) (e : zs.map (·.1) = List.range D) : zs.map (fun y => h i y.1) = rowM D h i := by
  unfold rowM
  rw [← e, List.map_map]
  rfl
/-- Of all rows that have come, and of some columns of one more. -/
def partL {α : Type} (D : Nat) (h : Nat → Nat → α) (pre : List RowX) (i : Nat) (pre2 : List RowX) : List α := rowsL D h pre ++ pre2.map (fun y => h i y.1)
theorem partL_nil {α : Type} (D : Nat) (h : Nat → Nat → α) (pre : List RowX) (i : Nat) : partL D h pre i [] = rowsL D h pre := by simp [partL]
theorem partL_snoc {α : Type} (D : Nat) (h : Nat → Nat → α) (pre : List RowX) (i : Nat) (pre2 : List RowX) (y : RowX) : partL D h pre i (pre2 ++ [y]) = partL D h pre i pre2 ++ [h i y.1] := by simp [partL]
theorem partL_all {α : Type} (D : Nat) (h : Nat → Nat → α) (pre : List RowX) (x : RowX) (zs : List RowX) (e : zs.map (·.1) = List.range D) : partL D h pre x.1 zs = rowsL D h (pre ++ [x]) := by
  rw [rowsL_snoc, partL, cols_all h x.1 zs e]
theorem partL_len {α : Type} (D : Nat) (h : Nat → Nat → α) (pre : List RowX) (i : Nat) (pre2 : List RowX) : (partL D h pre i pre2).length = pre.length * D + pre2.length := by
  rw [partL, List.length_append, rowsL_len, List.length_map]
end Go.Proofs.YtljmggemdkfbiaaGreat
