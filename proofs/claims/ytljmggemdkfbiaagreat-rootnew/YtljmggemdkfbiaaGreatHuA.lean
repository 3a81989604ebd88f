/- Rows that lie in blocks of their own and are changed in place: copies of elements of several cells, a table of rows in memory (layer 8). -/
import Derived.Test.YtljmggemdkfbiaaGreatTr0
import Derived.Test.YtljmggemdkfbiaaGreatHsM
import Derived.Laws.IdiomCopy
namespace Go.Proofs.YtljmggemdkfbiaaGreat
open Go.RowKit
set_option linter.unusedSimpArgs false
set_option linter.unusedVariables false

/-- A row in a block of its own, at or beyond lo, of which no cell is frozen. -/
def RwZ {α : Type} (s : Nat) (c : α → List Value) (w : World) (lo : Nat) (v : Value) (xs : List α) : Prop :=
  ∃ b cap, v = .slice (some ⟨b, 0, none⟩) xs.length cap ∧ xs.length ≤ cap ∧ lo ≤ b ∧ b < w.heap.size ∧ (∀ o, w.frozen? ⟨b, o, none⟩ = false) ∧ ∀ j x, xs[j]? = some x → ∀ k u, (c x)[k]? = some u → w.cell? ⟨b, j * s + k, none⟩ = some u
theorem RwZ.of_own {α : Type} {s : Nat} {c : α → List Value} (hs : ∀ x, (c x).length = s) {w : World} {B : Nat} {e : TypeId} {v : Value} {xs : List α}
    (h : w.ownsRow B e s v xs.length (xs.flatMap c)) (hne : xs ≠ []) : RwZ s c w B v xs := by
  have hlt := h.lt
  have R := Rw.of_own hs h
  rcases R with ⟨rfl, e0⟩ | ⟨b, o, cap, rfl, hc, hb, hx⟩
  · exact absurd e0 hne
  · have h2 := h.2
    rcases h2 with ⟨e1, _⟩ | ⟨g, cap', cur, e1, hB, _⟩
    · cases e1
    · cases e1
      have h3 := h
      exact ⟨b, cap, rfl, hc, hB, hb, fun o => h3.frozenAt o, fun j x hj k u hu => by have := hx j x hj k u hu; rwa [Nat.zero_add] at this⟩
theorem RwZ.rw {α : Type} {s : Nat} {c : α → List Value} {w : World} {lo : Nat} {v : Value} {xs : List α} (h : RwZ s c w lo v xs) : Rw s c w v xs := by
  obtain ⟨b, cap, e, hc, _, hb, _, hx⟩ := h
  exact .inr ⟨b, 0, cap, e, hc, hb, fun j x hj k u hu => by have := hx j x hj k u hu; rwa [Nat.zero_add]⟩
theorem RwZ.later {α : Type} {s : Nat} {c : α → List Value} {w w' : World} {lo : Nat} {v : Value} {xs : List α} (h : RwZ s c w lo v xs) (k : Bl w w') : RwZ s c w' lo v xs := by
  obtain ⟨b, cap, e, hc, hlo, hb, hf, hx⟩ := h
  exact ⟨b, cap, e, hc, hlo, Nat.lt_of_lt_of_le hb (Below.size k), fun o => (bl_froz k _ _ hb).trans (hf o), fun j x hj i u hu => (bl_cell k _ _ hb).trans (hx j x hj i u hu)⟩
theorem RwZ.fresh {α : Type} {s : Nat} {c : α → List Value} {w : World} {lo : Nat} {v : Value} {xs : List α} (h : RwZ s c w lo v xs) : Fresh lo v := by
  obtain ⟨b, cap, rfl, _, hlo, _⟩ := h
  intro g hg; cases hg; exact hlo
/-- But for the blocks of S nothing has turned. -/
structure But (S : Nat → Prop) (w w' : World) : Prop where
  os : w'.os = w.os
  tape : w'.tape = w.tape
  output : w'.output = w.output
  size : w.heap.size ≤ w'.heap.size
  block : ∀ k, k < w.heap.size → ¬ S k → w'.heap[k]? = w.heap[k]?
theorem But.of_bl {S : Nat → Prop} {w w' : World} (h : Bl w w') : But S w w' := ⟨Below.os h, Below.tape h, Below.output h, Below.size h, fun k hk _ => Below.block h k hk⟩
theorem But.refl (S : Nat → Prop) (w : World) : But S w w := But.of_bl (Bl.refl w)
theorem But.trans {S : Nat → Prop} {a b c : World} (h : But S a b) (k : But S b c) : But S a c :=
  ⟨k.os.trans h.os, k.tape.trans h.tape, k.output.trans h.output, Nat.le_trans h.size k.size, fun i hi hs => (k.block i (Nat.lt_of_lt_of_le hi h.size) hs).trans (h.block i hi hs)⟩
theorem But.mono {S T : Nat → Prop} {a b : World} (h : But S a b) (k : ∀ i, S i → T i) : But T a b := ⟨h.os, h.tape, h.output, h.size, fun i hi hs => h.block i hi fun e => hs (k i e)⟩
theorem But.cell {S : Nat → Prop} {a b : World} (h : But S a b) (g o : Nat) (hg : g < a.heap.size) (hs : ¬ S g) : b.cell? ⟨g, o, none⟩ = a.cell? ⟨g, o, none⟩ := World.cell?_of_block (a := ⟨g, o, none⟩) (h.block g hg hs)
theorem But.froz {S : Nat → Prop} {a b : World} (h : But S a b) (g o : Nat) (hg : g < a.heap.size) (hs : ¬ S g) : b.frozen? ⟨g, o, none⟩ = a.frozen? ⟨g, o, none⟩ := World.frozen?_of_block (a := ⟨g, o, none⟩) (h.block g hg hs)
theorem But.bl {S : Nat → Prop} {a b c : World} (h : But S b c) (k : Bl a b) (hs : ∀ i, S i → a.heap.size ≤ i) : Bl a c :=
  ⟨h.os.trans (Below.os k), h.tape.trans (Below.tape k), h.output.trans (Below.output k), Nat.le_trans (Below.size k) h.size, fun i hi => (h.block i (Nat.lt_of_lt_of_le hi (Below.size k)) fun e => by have := hs i e; omega).trans (Below.block k i hi)⟩
theorem Rw.but {α : Type} {s : Nat} {c : α → List Value} {w w' : World} {v : Value} {xs : List α} {S : Nat → Prop} (h : Rw s c w v xs) (k : But S w w') (hs : ∀ g, v.ownBlock = some g → ¬ S g) : Rw s c w' v xs := by
  rcases h with h | ⟨b, o, cap, rfl, hc, hb, hx⟩
  · exact .inl h
  · exact .inr ⟨b, o, cap, rfl, hc, Nat.lt_of_lt_of_le hb k.size, fun j x hj i u hu => (k.cell _ _ hb (hs b rfl)).trans (hx j x hj i u hu)⟩
theorem RwZ.but {α : Type} {s : Nat} {c : α → List Value} {w w' : World} {lo : Nat} {v : Value} {xs : List α} {S : Nat → Prop} (h : RwZ s c w lo v xs) (k : But S w w') (hs : ∀ g, v.ownBlock = some g → ¬ S g) : RwZ s c w' lo v xs := by
  obtain ⟨b, cap, rfl, hc, hlo, hb, hf, hx⟩ := h
  exact ⟨b, cap, rfl, hc, hlo, Nat.lt_of_lt_of_le hb k.size, fun o => (k.froz _ _ hb (hs b rfl)).trans (hf o), fun j x hj i u hu => (k.cell _ _ hb (hs b rfl)).trans (hx j x hj i u hu)⟩
/-- Cells set one behind the other. -/
theorem but_setCells {S : Nat → Prop} {b : Nat} (hb : S b) : ∀ (vs : List Value) (o : Nat) (w0 w : World), But S w0 w → But S w0 (w.setCells b o vs)
  | [], _, _, _, h => h
  | v :: r, o, w0, w, h => by
    show But S w0 ((w.setCell ⟨b, o, none⟩ v).setCells b (o + 1) r)
    refine but_setCells hb r (o + 1) w0 _ ⟨h.os, h.tape, h.output, by simpa using h.size, fun k hk hs => ?_⟩
    exact (Below.heap_setCell _ _ _ k (show k ≠ b from fun e => hs (e ▸ hb))).trans (h.block k hk hs)
theorem setCells_size (b : Nat) : ∀ (vs : List Value) (o : Nat) (w : World), (w.setCells b o vs).heap.size = w.heap.size
  | [], _, _ => rfl
  | v :: r, o, w => by show ((w.setCell ⟨b, o, none⟩ v).setCells b (o + 1) r).heap.size = _; rw [setCells_size b r]; simp
/-- copy of n elements of s cells each. -/
theorem run_copy_s {P : Program} (w : World) (dT sT ty elem : TypeId) (s b o dLen dCap : Nat) (a : Addr) (sLen sCap n : Nat) (cs : List Value)
    (hu : P.underlying dT = some (.slice elem)) (hs : (P.info? elem).map (·.size) = some s) (hn : Nat.min sLen dLen = n) (hl : cs.length = n * s)
    (hsrc : ∀ j v, cs[j]? = some v → w.cell? (a.add j) = some v) (hc : ∀ j, j < cs.length → (w.cell? ⟨b, o + j, none⟩).isSome = true) (hf : ∀ j, j < cs.length → w.frozen? ⟨b, o + j, none⟩ = false) (h1 : ∀ v ∈ cs, v.oneCell' = true) :
    (Builtin.copy_ #[dT, sT] ty #[.slice (some ⟨b, o, none⟩) dLen dCap, .slice (some a) sLen sCap]).run P w = .ok (goInt n) (w.setCells b o cs) := by
  have hld := run_loadCells_list (P := P) w a cs hsrc
  have hst := run_storeCells_cells (P := P) b o cs 0 w (by simpa using hc) (by simpa using hf) h1
  cases hq : P.info? elem with
  | none => simp [hq] at hs
  | some i =>
    have hi : i.size = s := by simpa [hq] using hs
    rw [hl] at hld
    simp [Builtin.copy_, run_underlying hu, Builtin.lenOf, Builtin.firstCells, sizeOf, typeInfo, hq, hi, hn, hld, hst]
theorem wpList_copy_s {P : Program} {w : World} {ops : Array Oper} {rest : List Oper} {o : Oper} {a : Act} {Q : Exit → Act → World → Prop} (hgd : o.guard = none) (d sr : Operand) (dT sT : TypeId)
    (ho : o.op = .call { callee := .builtin .copy, args := #[d, sr], argTypes := #[dT, sT] }) (elem : TypeId) (hu : P.underlying dT = some (.slice elem)) (s : Nat) (hsz : (P.info? elem).map (·.size) = some s)
    (g off dLen dCap : Nat) (ad : Addr) (sLen sCap : Nat) (hd : a.eval d = .slice (some ⟨g, off, none⟩) dLen dCap) (hs : a.eval sr = .slice (some ad) sLen sCap)
    (n : Nat) (cs : List Value) (hn : Nat.min sLen dLen = n) (hl : cs.length = n * s)
    (hsrc : ∀ j v, cs[j]? = some v → w.cell? (ad.add j) = some v) (hc : ∀ j, j < cs.length → (w.cell? ⟨g, off + j, none⟩).isSome = true) (hf : ∀ j, j < cs.length → w.frozen? ⟨g, off + j, none⟩ = false) (h1 : ∀ v ∈ cs, v.oneCell' = true)
    (h : ∀ w', Hid (w' = w.setCells g off cs) → wpList P ops Q rest (a.put o.dst (goInt n)) w') : wpList P ops Q (o :: rest) a w := by
  refine wpList_plain hgd fun K hK => ?_
  have hrun := run_copy_s (P := P) w dT sT o.type elem s g off dLen dCap ad sLen sCap n cs hu hsz hn hl hsrc hc hf h1
  unfold Oper.wp
  simp [execOp, ho, resolve, invoke, builtin, hd, hs, hrun, Result.andThen]
  exact hK _ _ (h _ rfl)
/-- n rows of m numbers each, in blocks of their own, none of them that of the table. -/
structure Tbl {α : Type} (s : Nat) (c : α → List Value) (w : World) (H : Nat) (B cp : Nat → Nat) (n m : Nat) (a : Nat → Nat → α) : Prop where
  hdr : ∀ i, i < n → w.cell? ⟨H, i, none⟩ = some (.slice (some ⟨B i, 0, none⟩) m (cp i))
  hlt : H < w.heap.size
  blt : ∀ i, i < n → B i < w.heap.size
  inj : ∀ i j, i < n → j < n → B i = B j → i = j
  hne : ∀ i, i < n → B i ≠ H
  cap : ∀ i, i < n → m ≤ cp i
  cells : ∀ i j, i < n → j < m → ∀ k u, (c (a i j))[k]? = some u → w.cell? ⟨B i, j * s + k, none⟩ = some u
  froz : ∀ i, i < n → ∀ o, w.frozen? ⟨B i, o, none⟩ = false
/-- The blocks of its rows. -/
def InT (B : Nat → Nat) (n : Nat) (g : Nat) : Prop := ∃ i, i < n ∧ g = B i
theorem Tbl.later {α : Type} {s : Nat} {c : α → List Value} {w w' : World} {H : Nat} {B cp : Nat → Nat} {n m : Nat} {a : Nat → Nat → α} (h : Tbl s c w H B cp n m a) (k : Bl w w') : Tbl s c w' H B cp n m a :=
  ⟨fun i hi => (bl_cell k _ _ h.hlt).trans (h.hdr i hi), Nat.lt_of_lt_of_le h.hlt (Below.size k), fun i hi => Nat.lt_of_lt_of_le (h.blt i hi) (Below.size k), h.inj, h.hne, h.cap,
    fun i j hi hj x u hu => (bl_cell k _ _ (h.blt i hi)).trans (h.cells i j hi hj x u hu), fun i hi o => (bl_froz k _ _ (h.blt i hi)).trans (h.froz i hi o)⟩
theorem Tbl.congr {α : Type} {s : Nat} {c : α → List Value} {w : World} {H : Nat} {B cp : Nat → Nat} {n m : Nat} {a b : Nat → Nat → α} (h : Tbl s c w H B cp n m a) (e : ∀ i j, i < n → j < m → a i j = b i j) : Tbl s c w H B cp n m b :=
  { h with cells := fun i j hi hj => by rw [← e i j hi hj]; exact h.cells i j hi hj }
/-- A part of a row. -/
theorem Tbl.part {α : Type} {s : Nat} {c : α → List Value} {w : World} {H : Nat} {B cp : Nat → Nat} {n m : Nat} {a : Nat → Nat → α} (h : Tbl s c w H B cp n m a) {i k : Nat} (hi : i < n) (hk : k ≤ m) :
    Rq s c w (.slice (some ⟨B i, k * s, none⟩) (m - k) (cp i - k)) (tailH m k (a i)) := by
  have hc := h.cap i hi
  refine .inr ⟨B i, k * s, cp i - k, by simp [tailH], by simp [tailH]; omega, h.blt i hi, fun j x hj q u hu => ?_⟩
  unfold tailH at hj
  have hjl : j < m - k := by have := (List.getElem?_eq_some_iff.1 hj).1; simpa using this
  simp [hjl] at hj
  subst hj
  have := h.cells i (k + j) hi (by omega) q u hu
  rwa [Nat.add_mul] at this
theorem Tbl.first {α : Type} {s : Nat} {c : α → List Value} {w : World} {H : Nat} {B cp : Nat → Nat} {n m : Nat} {a : Nat → Nat → α} (h : Tbl s c w H B cp n m a) {i q : Nat} (hi : i < n) (hq : q ≤ m) :
    Rq s c w (.slice (some ⟨B i, 0, none⟩) q (cp i)) (rowM q a i) := by
  have hc := h.cap i hi
  refine .inr ⟨B i, 0, cp i, by simp [rowM_len], by simp [rowM_len]; omega, h.blt i hi, fun j x hj t u hu => ?_⟩
  have hjl : j < q := by have := (List.getElem?_eq_some_iff.1 hj).1; rwa [rowM_len] at this
  rw [rowM_get a i hjl] at hj
  cases hj
  have := h.cells i j hi (by omega) t u hu
  rwa [Nat.zero_add]
theorem cell_set_some {w : World} {b : Nat} {vs : List Value} {o : Nat} (hs : ∀ j, j < vs.length → (w.cell? ⟨b, o + j, none⟩).isSome = true) {q : Nat} (hq : o ≤ q) (hq2 : q < o + vs.length) {u : Value} (hu : vs[q - o]? = some u) : (w.setCells b o vs).cell? ⟨b, q, none⟩ = some u := by
  have h := World.cell?_setCells_in b vs o w hs (q - o) (by omega)
  rw [show o + (q - o) = q by omega] at h
  rw [h]
  rw [List.getElem?_eq_getElem (by omega)] at hu
  exact hu
theorem flat_get {α : Type} {s : Nat} {c : α → List Value} (hs : ∀ x, (c x).length = s) : ∀ (xs : List α) (i k : Nat) (x : α), xs[i]? = some x → k < s → (xs.flatMap c)[i * s + k]? = (c x)[k]?
  | [], i, k, x, h, _ => by simp at h
  | y :: ys, 0, k, x, h, hk => by
    simp at h
    subst h
    rw [List.flatMap_cons, List.getElem?_append_left (by rw [hs]; omega), Nat.zero_mul, Nat.zero_add]
  | y :: ys, i + 1, k, x, h, hk => by
    rw [List.flatMap_cons, List.getElem?_append_right (by rw [hs, Nat.add_mul]; omega), hs, show (i + 1) * s + k - s = i * s + k by rw [Nat.add_mul]; omega]
    exact flat_get hs ys i k x (by simpa using h) hk
/-- A part of a row set anew. -/
theorem Tbl.put {α : Type} {s : Nat} {c : α → List Value} (hs : ∀ x, (c x).length = s) {w : World} {H : Nat} {B cp : Nat → Nat} {n m : Nat} {a b : Nat → Nat → α} (h : Tbl s c w H B cp n m a) {i k : Nat} {xs : List α} (hi : i < n) (hk : k + xs.length ≤ m)
    (e1 : ∀ j, j < xs.length → xs[j]? = some (b i (k + j))) (e2 : ∀ i' j, i' < n → j < m → ¬ (i' = i ∧ k ≤ j ∧ j < k + xs.length) → b i' j = a i' j) :
    Tbl s c (w.setCells (B i) (k * s) (xs.flatMap c)) H B cp n m b ∧ But (InT B n) w (w.setCells (B i) (k * s) (xs.flatMap c)) := by
  have hb : But (InT B n) w (w.setCells (B i) (k * s) (xs.flatMap c)) := but_setCells ⟨i, hi, rfl⟩ _ _ _ _ (But.refl _ _)
  have hfl := flat_len hs xs
  have some : ∀ j, j < (xs.flatMap c).length → (w.cell? ⟨B i, k * s + j, none⟩).isSome = true := fun j hj => by
    rw [hfl] at hj
    have hs0 : 0 < s := by rcases Nat.eq_zero_or_pos s with e | e; · subst e; simp at hj
                           · exact e
    have hd : j / s < xs.length := by rw [Nat.div_lt_iff_lt_mul hs0]; exact hj
    have hm : j % s < s := Nat.mod_lt _ hs0
    have hj' : j = j / s * s + j % s := by rw [Nat.mul_comm]; exact (Nat.div_add_mod j s).symm
    have := h.cells i (k + j / s) hi (by omega) (j % s) _ (List.getElem?_eq_getElem (by rw [hs]; exact hm))
    rw [show k * s + j = (k + j / s) * s + j % s by rw [Nat.add_mul]; omega, this]
    rfl
  refine ⟨⟨fun i' hi' => ?_, by rw [setCells_size]; exact h.hlt, fun i' hi' => by rw [setCells_size]; exact h.blt i' hi', h.inj, h.hne, h.cap, fun i' j hi' hj q u hu => ?_, fun i' hi' o => by rw [World.frozen?_setCells]; exact h.froz i' hi' o⟩, hb⟩
  · rw [World.cell?_setCells_out _ _ _ _ _ (fun e _ => absurd e.symm (h.hne i hi))]
    exact h.hdr i' hi'
  · by_cases hin : i' = i ∧ k ≤ j ∧ j < k + xs.length
    · obtain ⟨rfl, h1, h2⟩ := hin
      have hql : q < s := by have := (List.getElem?_eq_some_iff.1 hu).1; rwa [hs] at this
      have hx := e1 (j - k) (by omega)
      rw [show k + (j - k) = j by omega] at hx
      have hg := flat_get hs xs (j - k) q _ hx hql
      rw [hu] at hg
      have hjk : j * s = k * s + (j - k) * s := by rw [← Nat.add_mul]; congr 1; omega
      have hle : (j - k) * s + s ≤ xs.length * s := by rw [← Nat.succ_mul]; exact Nat.mul_le_mul_right _ (by omega)
      refine cell_set_some some (by omega) (by rw [hfl]; omega) ?_
      rw [show j * s + q - k * s = (j - k) * s + q by omega]
      exact hg
    · have ho := e2 i' j hi' hj hin
      rw [ho] at hu
      have hql : q < s := by have := (List.getElem?_eq_some_iff.1 hu).1; rwa [hs] at this
      rw [World.cell?_setCells_out _ _ _ _ _ (fun e _ => ?_)]
      · exact h.cells i' j hi' hj q u hu
      · simp only at e
        have hii : i' = i := h.inj i' i hi' hi e
        subst hii
        have hcase : j < k ∨ k + xs.length ≤ j := by
          rcases Nat.lt_or_ge j k with h1 | h1
          · exact .inl h1
          · exact .inr (Nat.le_of_not_lt fun h2 => hin ⟨rfl, h1, h2⟩)
        simp only
        rw [hfl]
        rcases hcase with h1 | h1
        · left
          have : (j + 1) * s ≤ k * s := Nat.mul_le_mul_right _ h1
          rw [Nat.add_mul] at this
          omega
        · right
          have : (k + xs.length) * s ≤ j * s := Nat.mul_le_mul_right _ h1
          rw [Nat.add_mul] at this
          omega
/-- A row less another one times what the two of them say. -/
def lessH {α : Type} (K : Kd α) (ws vs : List α) (q : α) : List α := List.zipWith K.sub ws (vs.map fun x => K.mul x (K.div (K.add (K.dot ws vs) (K.dot ws vs)) q))
theorem tail_len {α : Type} (m k : Nat) (f : Nat → α) : (tailH m k f).length = m - k := by simp [tailH]
theorem tail_get {α : Type} {m k j : Nat} (f : Nat → α) (h : j < m - k) : (tailH m k f)[j]? = some (f (k + j)) := by simp [tailH, h]
theorem tail_ext {α : Type} {m k : Nat} {f : Nat → α} {xs : List α} (hl : xs.length = m - k) (h : ∀ j, j < m - k → xs[j]? = some (f (k + j))) : xs = tailH m k f := by
  refine List.ext_getElem? fun j => ?_
  by_cases hj : j < m - k
  · rw [h j hj, tail_get f hj]
  · rw [List.getElem?_eq_none (by omega), List.getElem?_eq_none (by rw [tail_len]; omega)]
theorem tail_congrH {α : Type} {m k : Nat} {f g : Nat → α} (h : ∀ j, k ≤ j → j < m → f j = g j) : tailH m k f = tailH m k g :=
  tail_ext (tail_len _ _ _) fun j hj => by rw [tail_get f hj, h (k + j) (by omega) (by omega)]
/-- What a row is less, number by number. -/
theorem less_get {α : Type} (K : Kd α) (m k : Nat) (b : Bool) (a : Nat → Nat → α) (i : Nat) (hi : k < i) : lessH K (tailH m k (a i)) (tailH m k (vH K m k b a)) (K.dot (tailH m k (vH K m k b a)) (tailH m k (vH K m k b a))) = tailH m k (foldStep K m k b a i) := by
  refine tail_ext (by simp [lessH, tail_len]) fun j hj => ?_
  unfold lessH
  rw [List.getElem?_zipWith, List.getElem?_map, tail_get _ hj, tail_get _ hj]
  show some _ = some _
  unfold foldStep
  rw [if_neg (by omega), if_pos ⟨hi, by omega⟩]
  rfl
/-- The first d rows below row k are those of b. -/
def partH {α : Type} (k d : Nat) (b a : Nat → Nat → α) (i c : Nat) : α := if k < i ∧ i ≤ k + d then b i c else a i c
theorem partH_zero {α : Type} (k : Nat) (b a : Nat → Nat → α) : partH k 0 b a = a := by
  funext i c
  unfold partH
  rw [if_neg (by omega)]
/-- What a made row has got is copied over. -/
theorem RwZ.copy {α : Type} {s : Nat} {c : α → List Value} (hs : ∀ x, (c x).length = s) {w : World} {B g n cap : Nat} {e : TypeId} {L : List Value} (h : w.ownsRow B e s (.slice (some ⟨g, 0, none⟩) n cap) n L) {xs : List α} (hx : xs.length = n) (h0 : 0 < n) :
    RwZ s c (w.setCells g (0 * s) (xs.flatMap c)) B (.slice (some ⟨g, 0, none⟩) n cap) xs ∧ (∀ j, j < (xs.flatMap c).length → (w.cell? ⟨g, 0 + j, none⟩).isSome = true) ∧ (∀ j, w.frozen? ⟨g, 0 + j, none⟩ = false) := by
  have hfz : ∀ j, w.frozen? ⟨g, j, none⟩ = false := fun j => h.frozenAt j
  have hlt := h.lt g rfl
  have hL := h.1
  have hfl := flat_len hs xs
  have hsm : ∀ j, j < (xs.flatMap c).length → (w.cell? ⟨g, 0 + j, none⟩).isSome = true := fun j hj => by
    rw [hfl, hx] at hj
    have := h.cells rfl j _ (List.getElem?_eq_getElem (by omega))
    have hadd : (⟨g, 0, none⟩ : Addr).add j = ⟨g, 0 + j, none⟩ := by unfold Addr.add; split <;> simp_all
    rw [hadd] at this
    rw [this]; rfl
  have hcap : n ≤ cap := by
    rcases h.2 with ⟨e1, _⟩ | ⟨g', cap', cur, e1, _, _, h1, _⟩
    · cases e1
    · cases e1; exact h1
  refine ⟨⟨g, cap, by rw [hx], by omega, hlt.1, by rw [setCells_size]; exact hlt.2, fun o => by rw [World.frozen?_setCells]; exact hfz o, fun j x hj k u hu => ?_⟩, hsm, fun j => hfz _⟩
  have hk : k < s := by have := (List.getElem?_eq_some_iff.1 hu).1; rwa [hs] at this
  have hj' : j < xs.length := (List.getElem?_eq_some_iff.1 hj).1
  have hg := flat_get hs xs j k x hj hk
  rw [hu] at hg
  have hle : j * s + s ≤ xs.length * s := by rw [← Nat.succ_mul]; exact Nat.mul_le_mul_right _ hj'
  rw [Nat.zero_mul]
  exact cell_set_some hsm (Nat.zero_le _) (by rw [hfl]; omega) (by rw [Nat.sub_zero]; exact hg)
/-- Its first number set anew. -/
theorem RwZ.put0 {α : Type} {s : Nat} {c : α → List Value} (hs : ∀ x, (c x).length = s) {w : World} {B g n cap : Nat} {x y : α} {xs : List α} (h : RwZ s c w B (.slice (some ⟨g, 0, none⟩) n cap) (x :: xs)) :
    RwZ s c (w.setCells g 0 (c y)) B (.slice (some ⟨g, 0, none⟩) n cap) (y :: xs) := by
  obtain ⟨b, cap', e, hc, hlo, hb, hf, hx⟩ := h
  cases e
  refine ⟨g, cap, rfl, hc, hlo, by rw [setCells_size]; exact hb, fun o => by rw [World.frozen?_setCells]; exact hf o, fun j z hj k u hu => ?_⟩
  have hk : k < s := by have := (List.getElem?_eq_some_iff.1 hu).1; rwa [hs] at this
  cases j with
  | zero =>
    simp at hj
    subst hj
    rw [Nat.zero_mul, Nat.zero_add]
    refine cell_set_some (fun j hj => ?_) (Nat.zero_le _) (by rw [hs]; omega) (by rw [Nat.sub_zero]; exact hu)
    rw [hs] at hj
    have := hx 0 x rfl j _ (List.getElem?_eq_getElem (by rw [hs]; exact hj))
    rw [Nat.zero_mul] at this
    rw [this]; rfl
  | succ j =>
    rw [World.cell?_setCells_out _ _ _ _ _ (fun _ _ => .inr (by show 0 + (c y).length ≤ (j + 1) * s + k; rw [hs, Nat.add_mul]; omega))]
    exact hx (j + 1) z (by simpa using hj) k u hu
theorem tail_consH {α : Type} {m k : Nat} (f : Nat → α) (h : k < m) : tailH m k f = f k :: (List.range (m - k - 1)).map fun j => f (k + 1 + j) := by
  symm
  refine tail_ext (by simp; omega) fun j hj => ?_
  cases j with
  | zero => simp
  | succ j =>
    rw [List.getElem?_cons_succ, List.getElem?_map, List.getElem?_range (by omega)]
    exact congrArg some (congrArg f (by omega))
theorem add_off (a : Addr) (j : Nat) (h : a.spot = none) : a.add j = ⟨a.block, a.off + j, none⟩ := by
  obtain ⟨b, o, s⟩ := a
  simp only at h
  subst h
  unfold Addr.add
  split <;> simp_all
theorem bl_setCells {w0 : World} {b : Nat} : ∀ {w : World}, Bl w0 w → w0.heap.size ≤ b → ∀ (vs : List Value) (o : Nat), Bl w0 (w.setCells b o vs) := by
  intro w h hb vs o
  induction vs generalizing w o with
  | nil => exact h
  | cons v vs ih => exact ih (Bl.set h hb v) (o + 1)
theorem RwZ.glt {α : Type} {s : Nat} {c : α → List Value} {w : World} {lo g n cap : Nat} {xs : List α} (h : RwZ s c w lo (.slice (some ⟨g, 0, none⟩) n cap) xs) : g < w.heap.size := by
  obtain ⟨b, cap', e, _, _, hb, _⟩ := h
  cases e
  exact hb
/-- The cells of a part of a row are there. -/
theorem Tbl.somes {α : Type} {s : Nat} {c : α → List Value} (hs : ∀ x, (c x).length = s) {w : World} {H : Nat} {B cp : Nat → Nat} {n m : Nat} {a : Nat → Nat → α} (h : Tbl s c w H B cp n m a) {i k : Nat} {xs : List α} (hi : i < n) (hk : k + xs.length ≤ m) :
    ∀ j, j < (xs.flatMap c).length → (w.cell? ⟨B i, k * s + j, none⟩).isSome = true := fun j hj => by
  rw [flat_len hs] at hj
  have hs0 : 0 < s := by
    rcases Nat.eq_zero_or_pos s with e | e
    · subst e; simp at hj
    · exact e
  have hd : j / s < xs.length := by rw [Nat.div_lt_iff_lt_mul hs0]; exact hj
  have hm : j % s < s := Nat.mod_lt _ hs0
  have hj' : j = j / s * s + j % s := by rw [Nat.mul_comm]; exact (Nat.div_add_mod j s).symm
  have := h.cells i (k + j / s) hi (by omega) (j % s) _ (List.getElem?_eq_getElem (by rw [hs]; exact hm))
  rw [show k * s + j = (k + j / s) * s + j % s by rw [Nat.add_mul]; omega, this]
  rfl
/-- Column k from the diagonal on, down to row i, told by h. -/
def negTo {α : Type} (h : α → α) (k i : Nat) (f : Nat → Nat → α) (a b : Nat) : α := if b = k ∧ k ≤ a ∧ a < i then h (f a b) else f a b
theorem negTo_next {α : Type} (h : α → α) {k i : Nat} (hi : k ≤ i) (f : Nat → Nat → α) : negTo h k (i + 1) f = putM (negTo h k i f) i k (h (negTo h k i f i k)) := by
  funext a b
  unfold putM negTo
  by_cases h1 : a = i ∧ b = k
  · rw [if_pos h1, if_pos (by omega), if_neg (by omega)]
    obtain ⟨rfl, rfl⟩ := h1
    rfl
  · rw [if_neg h1]
    by_cases h2 : b = k ∧ k ≤ a ∧ a < i
    · rw [if_pos h2, if_pos (by omega)]
    · rw [if_neg h2, if_neg (by omega)]
/-- A number of a row set anew. -/
theorem RwZ.putAt {α : Type} {s : Nat} {c : α → List Value} (hs : ∀ x, (c x).length = s) {w : World} {B g n cap : Nat} {xs : List α} (h : RwZ s c w B (.slice (some ⟨g, 0, none⟩) n cap) xs) {q : Nat} (hq : q < xs.length) (y : α) :
    RwZ s c (w.setCells g (q * s) (c y)) B (.slice (some ⟨g, 0, none⟩) n cap) (xs.set q y) := by
  obtain ⟨b, cap', e, hc, hlo, hb, hf, hx⟩ := h
  simp only [Value.slice.injEq, Option.some.injEq, Addr.mk.injEq] at e
  obtain ⟨⟨rfl, _⟩, rfl, rfl⟩ := e
  refine ⟨g, cap, by simp, by simpa using hc, hlo, by rw [setCells_size]; exact hb, fun o => by rw [World.frozen?_setCells]; exact hf o, fun j z hj k u hu => ?_⟩
  have hk : k < s := by have := (List.getElem?_eq_some_iff.1 hu).1; rwa [hs] at this
  rw [List.getElem?_set] at hj
  by_cases hqj : q = j
  · subst hqj
    rw [if_pos rfl, if_pos hq] at hj
    cases hj
    refine cell_set_some (fun t ht => ?_) (by omega) (by rw [hs]; omega) (by rw [Nat.add_sub_cancel_left]; exact hu)
    rw [hs] at ht
    have := hx q _ (List.getElem?_eq_getElem hq) t _ (List.getElem?_eq_getElem (by rw [hs]; exact ht))
    rw [this]; rfl
  · rw [if_neg hqj] at hj
    rw [World.cell?_setCells_out _ _ _ _ _ (fun _ _ => ?_)]
    · exact hx j z hj k u hu
    · show j * s + k < q * s ∨ q * s + (c y).length ≤ j * s + k
      rw [hs]
      rcases Nat.lt_or_gt_of_ne hqj with h1 | h1
      · right
        have : (q + 1) * s ≤ j * s := Nat.mul_le_mul_right _ h1
        rw [Nat.add_mul] at this
        omega
      · left
        have : (j + 1) * s ≤ q * s := Nat.mul_le_mul_right _ h1
        rw [Nat.add_mul] at this
        omega
/-- The first j columns with their signs set. -/
def sgTo {α : Type} (h : α → α) (low : α → Bool) (j : Nat) (f : Nat → Nat → α) (a b : Nat) : α := if b < j ∧ b ≤ a ∧ low (f b b) = true then h (f a b) else f a b
theorem sgTo_yes {α : Type} (h : α → α) (low : α → Bool) {j n : Nat} {f : Nat → Nat → α} (hl : low (f j j) = true) {a b : Nat} (ha : a < n) : negTo h j n (sgTo h low j f) a b = sgTo h low (j + 1) f a b := by
  unfold negTo sgTo
  by_cases h1 : b = j ∧ j ≤ a ∧ a < n
  · obtain ⟨rfl, h2, h3⟩ := h1
    rw [if_pos ⟨rfl, h2, h3⟩, if_neg (by omega), if_pos ⟨by omega, h2, hl⟩]
  · rw [if_neg h1]
    by_cases h2 : b < j ∧ b ≤ a ∧ low (f b b) = true
    · rw [if_pos h2, if_pos ⟨by omega, h2.2⟩]
    · rw [if_neg h2, if_neg]
      rintro ⟨h3, h4, h5⟩
      by_cases h6 : b = j
      · subst h6; exact h1 ⟨rfl, h4, ha⟩
      · exact h2 ⟨by omega, h4, h5⟩
theorem sgTo_no {α : Type} (h : α → α) (low : α → Bool) {j : Nat} {f : Nat → Nat → α} (hl : low (f j j) = false) {a b : Nat} : sgTo h low (j + 1) f a b = sgTo h low j f a b := by
  unfold sgTo
  by_cases h2 : b < j ∧ b ≤ a ∧ low (f b b) = true
  · rw [if_pos h2, if_pos ⟨by omega, h2.2⟩]
  · rw [if_neg h2, if_neg]
    rintro ⟨h3, h4, h5⟩
    by_cases h6 : b = j
    · subst h6; rw [hl] at h5; cases h5
    · exact h2 ⟨by omega, h4, h5⟩
theorem sgTo_all {α : Type} {K : Kd α} (h : α → α) (low : α → Bool) {n : Nat} {f : Nat → Nat → α} {a b : Nat} (hb : b < n) (hk : K.neg = h := by rfl) : sgTo h low n f a b = signsH K (fun j => low (f j j)) f a b := by
  subst hk
  unfold sgTo signsH
  by_cases h2 : b ≤ a ∧ low (f b b) = true
  · rw [if_pos ⟨hb, h2⟩, if_pos h2]
  · rw [if_neg h2, if_neg fun h => h2 h.2]
end Go.Proofs.YtljmggemdkfbiaaGreat
