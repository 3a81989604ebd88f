/- Matrices that are filled number by number, column by column from the diagonal down (layer 7): mathematics; a row's number set anew in memory. -/
import Derived.Test.YtljmggemdkfbiaaGreatMa0
import Derived.Test.YtljmggemdkfbiaaGreatRegQ
import Derived.Test.YtljmggemdkfbiaaGreatVeAI
namespace Go.Proofs.YtljmggemdkfbiaaGreat
open Go.RowKit
set_option linter.unusedSimpArgs false
set_option linter.unusedVariables false

/-- A matrix with one number set. -/
def putM {α : Type} (g : Nat → Nat → α) (i k : Nat) (x : α) : Nat → Nat → α := fun a b => if a = i ∧ b = k then x else g a b
theorem idx_inj7 {C i k a b : Nat} (hk : k < C) (hb : b < C) (h : i * C + k = a * C + b) : i = a ∧ k = b := by
  have hC : 0 < C := by omega
  have h1 : (i * C + k) / C = i := by rw [Nat.add_comm, Nat.add_mul_div_right _ _ hC, Nat.div_eq_of_lt hk, Nat.zero_add]
  have h2 : (a * C + b) / C = a := by rw [Nat.add_comm, Nat.add_mul_div_right _ _ hC, Nat.div_eq_of_lt hb, Nat.zero_add]
  rw [h, h2] at h1
  subst h1
  exact ⟨rfl, by omega⟩
theorem mk_put {α : Type} {R C i k : Nat} (hi : i < R) (hk : k < C) (f : Nat → Nat → α) (x : α) : (mk R C f).set (i * C + k) x = mk R C (putM f i k x) :=
  mk_ext _ _ (by rw [List.length_set, mk_len]) fun a b ha hb => by
    rw [List.getElem?_set]
    by_cases h : i * C + k = a * C + b
    · obtain ⟨rfl, rfl⟩ := idx_inj7 hk hb h
      rw [if_pos rfl, if_pos (by rw [mk_len]; exact mk_idx ha hb)]
      simp [putM]
    · rw [if_neg h, mk_get f ha hb]
      unfold putM
      rw [if_neg]
      rintro ⟨rfl, rfl⟩
      exact h rfl
/-- The first m numbers of column k, from the diagonal down, each told by val of what is there so far. -/
def colT {α : Type} (val : (Nat → Nat → α) → Nat → Nat → α) (k : Nat) (g : Nat → Nat → α) : Nat → Nat → Nat → α
  | 0 => g
  | m + 1 => putM (colT val k g m) (k + m) k (val (colT val k g m) (k + m) k)
/-- The first columns, the others z. -/
def triT {α : Type} (val : (Nat → Nat → α) → Nat → Nat → α) (z : α) (n : Nat) : Nat → Nat → Nat → α
  | 0 => fun _ _ => z
  | k + 1 => colT val k (triT val z n k) (n - k)
theorem colT_eq {α : Type} (val : (Nat → Nat → α) → Nat → Nat → α) (k : Nat) (g : Nat → Nat → α) : ∀ m a b, ¬ (b = k ∧ k ≤ a ∧ a < k + m) → colT val k g m a b = g a b
  | 0, a, b, _ => rfl
  | m + 1, a, b, h => by
    show putM _ _ _ _ a b = _
    unfold putM
    rw [if_neg (by omega)]
    exact colT_eq val k g m a b (by omega)
/-- Where what is told hangs on f alone, it stands there. -/
theorem triT_const {α : Type} (f : Nat → Nat → α) (z : α) (n : Nat) : ∀ k, k ≤ n → ∀ a b, a < n → triT (fun _ i k => f i k) z n k a b = if b ≤ a ∧ b < k then f a b else z
  | 0, _, a, b, _ => by rw [if_neg (by omega)]; rfl
  | k + 1, hk, a, b, ha => by
    have ih := triT_const f z n k (by omega) a b ha
    have col : ∀ m, colT (fun _ i k => f i k) k (triT (fun _ i k => f i k) z n k) m a b = if b = k ∧ k ≤ a ∧ a < k + m then f a b else triT (fun _ i k => f i k) z n k a b := by
      intro m
      induction m with
      | zero => rw [if_neg (by omega)]; rfl
      | succ m ih =>
        show putM _ _ _ _ a b = _
        unfold putM
        by_cases h : a = k + m ∧ b = k
        · rw [if_pos h, if_pos (by omega)]
          obtain ⟨rfl, rfl⟩ := h
          rfl
        · rw [if_neg h, ih]
          by_cases h2 : b = k ∧ k ≤ a ∧ a < k + m
          · rw [if_pos h2, if_pos (by omega)]
          · rw [if_neg h2, if_neg (by omega)]
    show colT _ _ _ (n - k) a b = _
    rw [col, ih]
    by_cases h : b = k ∧ k ≤ a ∧ a < k + (n - k)
    · rw [if_pos h, if_pos (by omega)]
    · rw [if_neg h]
      by_cases h2 : b ≤ a ∧ b < k
      · rw [if_pos h2, if_pos (by omega)]
      · rw [if_neg h2, if_neg (by omega)]
/-- Values laid one behind the other over a row's. -/
def setRow : List Value → Nat → List Value → List Value
  | l, _, [] => l
  | l, q, u :: us => setRow (l.set q u) (q + 1) us
theorem setRow_left : ∀ (us l1 pre l2 : List Value), l1.length = us.length → setRow (pre ++ l1 ++ l2) pre.length us = pre ++ us ++ l2
  | [], l1, pre, l2, h => by
    have : l1 = [] := List.eq_nil_of_length_eq_zero h
    subst this
    rfl
  | u :: us, [], pre, l2, h => by simp at h
  | u :: us, v :: l1, pre, l2, h => by
    have e : (pre ++ v :: l1 ++ l2).set pre.length u = (pre ++ [u]) ++ l1 ++ l2 := by simp
    have ih := setRow_left us l1 (pre ++ [u]) l2 (by simpa using h)
    show setRow ((pre ++ v :: l1 ++ l2).set pre.length u) (pre.length + 1) us = _
    rw [e]
    simpa using ih
theorem setRow_right : ∀ (us l r : List Value) (q : Nat), setRow (l ++ r) (l.length + q) us = l ++ setRow r q us
  | [], l, r, q => rfl
  | u :: us, l, r, q => by
    show setRow ((l ++ r).set (l.length + q) u) (l.length + q + 1) us = l ++ setRow (r.set q u) (q + 1) us
    rw [List.set_append_right _ _ (by omega), Nat.add_sub_cancel_left, Nat.add_assoc, setRow_right us l _ (q + 1)]
theorem flat_set {α : Type} {s : Nat} {c : α → List Value} (hs : ∀ x, (c x).length = s) : ∀ (xs : List α) (q : Nat) (x : α), q < xs.length → setRow (xs.flatMap c) (q * s) (c x) = (xs.set q x).flatMap c
  | [], q, x, h => by simp at h
  | y :: ys, 0, x, h => by
    have := setRow_left (c x) (c y) [] (ys.flatMap c) (by rw [hs, hs])
    simpa using this
  | y :: ys, q + 1, x, h => by
    have := setRow_right (c x) (c y) (ys.flatMap c) (q * s)
    rw [hs] at this
    rw [List.flatMap_cons, show (q + 1) * s = s + q * s by rw [Nat.add_mul]; omega, this, flat_set hs ys q x (by simpa using h)]
    simp
theorem flatI7 (xs : List Int) : xs.flatMap cellsI = xs.map (fun x => (.int .i64 x : Value)) := by
  induction xs with
  | nil => rfl
  | cons x xs ih => rw [List.flatMap_cons, ih]; rfl
theorem zeros_made (n : Nat) : (madeCells (Value.cells (.int .i64 0)) (n * 1)).toList = (List.replicate n (0 : Int)).flatMap cellsI := by
  rw [flatI7, Nat.mul_one, List.map_replicate]
  exact toList_madeCells_one _ _
theorem zeros_map {α : Type} (n : Nat) (f : Int → α) : (List.replicate (n * n) (0 : Int)).map f = mk n n (fun _ _ => f 0) :=
  mk_ext _ _ (by simp) fun i k hi hk => by simp [List.getElem?_replicate, mk_idx hi hk]
theorem own_base {w : World} {base base' : Nat} {e : TypeId} {s : Nat} {v : Value} {n : Nat} {xs : List Value} (h : w.ownsRow base e s v n xs) (hb : base' ≤ base) : w.ownsRow base' e s v n xs := by
  refine ⟨h.1, ?_⟩
  rcases h.2 with h | ⟨g, cap, cur, e1, h1, r⟩
  · exact .inl h
  · exact .inr ⟨g, cap, cur, e1, Nat.le_trans hb h1, r⟩
/-- Values laid one behind the other into a block. -/
def putX (w : World) (b : Nat) : Nat → List Value → World
  | _, [] => w
  | q, u :: us => putX (w.setCell ⟨b, q, none⟩ u) b (q + 1) us
theorem mbox_putX {b' b : Nat} {r c : Int} {p : Option Addr} {n cap : Nat} : ∀ {w : World}, MBox w b r c p n cap → b ≠ b' → ∀ (q : Nat) (us : List Value), MBox (putX w b' q us) b r c p n cap := by
  intro w h hne q us
  induction us generalizing w q with
  | nil => exact h
  | cons u us ih => exact ih (mbox_block h (Below.heap_setCell _ _ _ b (by show b ≠ b'; exact hne)) (by simp)) (q + 1)
theorem bl_putX {a : World} {b' : Nat} : ∀ {w : World}, Bl a w → a.heap.size ≤ b' → ∀ (q : Nat) (us : List Value), Bl a (putX w b' q us) := by
  intro w h hne q us
  induction us generalizing w q with
  | nil => exact h
  | cons u us ih => exact ih (Bl.set h hne _) (q + 1)
theorem wrapS7 {x : Int} (h1 : -1000000 ≤ x) (h2 : x ≤ 1000000) : IntKind.i64.wrap x = x := by
  rw [IntKind.wrap_i64]
  omega
theorem Mx.congr7 {α : Type} {s : Nat} {c : α → List Value} {w : World} {R C : Nat} {p : Option Addr} {n cap : Nat} {f g : Nat → Nat → α} (h : Mx s c w R C p n cap f) (e : ∀ i k, i < R → k < C → f i k = g i k) : Mx s c w R C p n cap g :=
  ⟨h.1, h.2.1, by rw [← mk_congr e]; exact h.2.2⟩
theorem rq_set7 {α : Type} {s : Nat} {c : α → List Value} {w : World} {v : Value} {xs : List α} (h : Rq s c w v xs) {p : Addr} (u : Value) (hf : Fresh (p.block + 1) v) : Rq s c (w.setCell p u) v xs := by
  rcases h with h | ⟨b, o, cap, rfl, hc, hb, hx⟩
  · exact .inl h
  · have hne : p.block + 1 ≤ b := hf b rfl
    have hk : (w.setCell p u).heap[b]? = w.heap[b]? := Below.heap_setCell _ _ _ b (by omega)
    exact .inr ⟨b, o, cap, rfl, hc, by simpa using hb, fun j x hj k v hv => (World.cell?_of_block (a := ⟨b, o + j * s + k, none⟩) hk).trans (hx j x hj k v hv)⟩
theorem mx_put7 {α : Type} {s : Nat} {c : α → List Value} {w : World} {R C : Nat} {p : Option Addr} {n cap b : Nat} {f : Nat → Nat → α} (h : Mx s c w R C p n cap f) (hf : Fresh (b + 1) (.slice p n cap)) (v0 v1 v2 : Value) : Mx s c (((w.setCell ⟨b, 0, none⟩ v0).setCell ⟨b, 1, none⟩ v1).setCell ⟨b, 2, none⟩ v2) R C p n cap f :=
  ⟨h.1, h.2.1, rq_set7 (rq_set7 (rq_set7 h.2.2 (p := ⟨b, 0, none⟩) v0 hf) (p := ⟨b, 1, none⟩) v1 hf) (p := ⟨b, 2, none⟩) v2 hf⟩
/-- Whether it is a square that may be. -/
def sqB (r c : Int) (n : Nat) : Bool := fitB r c n && decide (r = c)
theorem rowM_take7 {α : Type} {k n : Nat} (h : k ≤ n) (f : Nat → Nat → α) (i : Nat) : (rowM n f i).take k = rowM k f i := by
  unfold rowM
  rw [← List.map_take, List.take_range, Nat.min_eq_left h]
theorem rw_row7 {α : Type} {s : Nat} {c : α → List Value} {w : World} {p : Option Addr} {n k cap : Nat} {f : Nat → Nat → α} {i : Nat} (h : Rw s c w (.slice p n cap) (rowM n f i)) (hk : k ≤ n) : Rw s c w (.slice p k cap) (rowM k f i) := by
  obtain ⟨p', cap', e, _, hc⟩ := h.cut
  have hl := rowM_len n f i
  rw [hl] at e hc
  cases e
  have := hc k hk
  rwa [rowM_take7 hk] at this
/-- No truth value lies in a block. -/
def NoB (u : World) (b : Nat) : Prop := ∀ o x, u.cell? ⟨b, o, none⟩ ≠ some (.bool x)
theorem NoB.later {u u' : World} {b : Nat} (h : NoB u b) (k : Bl u u') (hb : b < u.heap.size) : NoB u' b := fun o x e => h o x ((bl_cell k _ _ hb).symm.trans e)
theorem noB_new (u : World) (t : TypeId) : NoB (u.alloc (.cells #[.int .i64 0, .int .i64 0, .slice none 0 0] t)) u.heap.size := by
  intro o x
  rcases o with _ | _ | _ | o
  · simp [go_sem]
  · simp [go_sem]
  · simp [go_sem]
  · simp [go_sem]
theorem noB_mx {α : Type} {s : Nat} {c : α → List Value} (hc : ∀ x, ∃ (j : Nat) (y : Bool), (c x)[j]? = some (Value.bool y)) {u : World} {R C : Nat} {p : Option Addr} {n cap : Nat} {f : Nat → Nat → α} (h : Mx s c u R C p n cap f) {b : Nat} (nb : NoB u b) : ∀ g, (Value.slice p n cap).ownBlock = some g → b ≠ g := by
  obtain ⟨b', o, rfl, _, _, hcell⟩ := h.cells
  obtain ⟨j, y, hj⟩ := hc (f 0 0)
  have := hcell 0 0 h.1.r1 h.1.c1 j _ hj
  rintro g hg rfl
  cases hg
  exact nb _ _ this
theorem mx_ne7 {α : Type} {s : Nat} {c : α → List Value} {w : World} {R C : Nat} {p : Option Addr} {n cap b : Nat} {f : Nat → Nat → α} (h : Mx s c w R C p n cap f) (hf : ∀ g, (Value.slice p n cap).ownBlock = some g → b ≠ g) (v0 v1 v2 : Value) : Mx s c (((w.setCell ⟨b, 0, none⟩ v0).setCell ⟨b, 1, none⟩ v1).setCell ⟨b, 2, none⟩ v2) R C p n cap f := by
  have one : ∀ (w : World) (a : Addr) (v : Value), a.block = b → Rq s c w (.slice p n cap) (mk R C f) → Rq s c (w.setCell a v) (.slice p n cap) (mk R C f) := by
    intro w a v ha h
    rcases h with h | ⟨b', o, cap', e, hc, hb, hx⟩
    · exact .inl h
    · cases e
      have hne := hf b' rfl
      have hk : (w.setCell a v).heap[b']? = w.heap[b']? := Below.heap_setCell _ _ _ b' (by omega)
      exact .inr ⟨b', o, cap, rfl, hc, by simpa using hb, fun j x hj k v hv => (World.cell?_of_block (a := ⟨b', o + j * s + k, none⟩) hk).trans (hx j x hj k v hv)⟩
  exact ⟨h.1, h.2.1, one _ _ _ rfl (one _ _ _ rfl (one _ _ _ rfl h.2.2))⟩
theorem mbox_set7 {w : World} {b b' : Nat} {r c : Int} {p : Option Addr} {n cap : Nat} (h : MBox w b r c p n cap) (hne : b ≠ b') (o : Nat) (v : Value) : MBox (w.setCell ⟨b', o, none⟩ v) b r c p n cap :=
  mbox_block h (Below.heap_setCell _ _ _ b (by show b ≠ b'; exact hne)) (by simp)
theorem rw_cells7 {α : Type} {s : Nat} {c : α → List Value} {w : World} {x : RowX} {C : Nat} {xs : List α} (h : Rw s c w (rowV C x) xs) (h0 : 0 < C) : ∃ b o, x.2.1 = some ⟨b, o, none⟩ ∧ b < w.heap.size ∧ ∀ (j : Nat) y, xs[j]? = some y → ∀ k u, (c y)[k]? = some u → w.cell? ⟨b, o + j * s + k, none⟩ = some u := by
  rcases h with ⟨e, _⟩ | ⟨b, o, cap, e, _, hb, hx⟩
  · simp only [rowV, Value.slice.injEq] at e
    omega
  · simp only [rowV, Value.slice.injEq] at e
    exact ⟨b, o, e.1, hb, hx⟩
/-- A call, as one operation. -/
theorem enter_wp {F : Fence} {n : Nat} {P : Program} {o : Oper} {a : Act} {w : World} {K : Act → World → Prop} {Q : Exit → Act → World → Prop} (f : Nat) (args : Array Value) (hd : ∀ c, o.op ≠ .defer c) (ha : ∀ g, o.about P w a.eval = some g → F.fn g)
    (hr : (execOp a.eval o).run P w = .ok (.enter f args) w) (h1 : F.depth.isSome = true → 1 ≤ n) {R : Ending → World → Prop} (hc : CallsIn F (n - 1) P f args w R) (hK : ∀ e w', R e w' → ∃ v, e = .returned v ∧ K (a.put o.dst v) w') : Oper.wpIn F n P o a w K Q := by
  unfold Oper.wpIn
  refine ⟨ha, ?_⟩
  rw [Oper.semAt_plain F _ _ hd, hr, Oper.uponIn_enter]
  refine ⟨h1, hc.mono ?_⟩
  intro e w' h
  obtain ⟨v, rfl, h2⟩ := hK e w' h
  exact h2
end Go.Proofs.YtljmggemdkfbiaaGreat
