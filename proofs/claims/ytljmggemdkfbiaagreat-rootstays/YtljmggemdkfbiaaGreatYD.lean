/- Contract of layer 6's Alike. -/
import Derived.Test.YtljmggemdkfbiaaGreatYB
import Derived.Laws.IdiomCopy
import Derived.Test.YtljmggemdkfbiaaGreatYC
import Derived.Laws.EntriesVeiled
import Derived.Test.YtljmggemdkfbiaaGreatYA
namespace Go.Proofs.YtljmggemdkfbiaaGreat
open Go.RowKit
set_option linter.unusedSimpArgs false
set_option linter.unusedVariables false
def RwZ {α : Type} (s : Nat) (c : α → List Value) (w : World) (lo : Nat) (v : Value) (xs : List α) : Prop :=
 ∃ b cap, v = .slice (some ⟨b, 0, none⟩) xs.length cap ∧ xs.length ≤ cap ∧ lo ≤ b ∧ b < w.heap.size ∧ (∀ o, w.frozen? ⟨b, o, none⟩ = false) ∧ ∀ j x, xs[j]? = some x → ∀ k u, (c x)[k]? = some u → w.cell? ⟨b, j * s + k, none⟩ = some u
theorem RwZ.of_own {α : Type} {s : Nat} {c : α → List Value} (hs : ∀ x, (c x).length = s) {w : World} {B : Nat} {e : TypeId} {v : Value} {xs : List α}
  (h : w.ownsRow B e s v xs.length (xs.flatMap c)) (hne : xs ≠ []) : RwZ s c w B v xs := by
 have hlt := h.lt
 have R := Rw.of_own hs h
 rcases R with ⟨rfl, e0⟩ | ⟨b, o, cap, rfl, hc, hb, hx⟩
 ·exact absurd e0 hne
 ·have h2 := h.2
  rcases h2 with ⟨e1, _⟩ | ⟨g, cap', cur, e1, hB, _⟩
  ·cases e1
  ·cases e1
   have h3 := h
   exact ⟨b, cap, rfl, hc, hB, hb, fun o => h3.frozenAt o, fun j x hj k u hu => by have := hx j x hj k u hu; rwa [Nat.zero_add] at this⟩
theorem RwZ.rw {α : Type} {s : Nat} {c : α → List Value} {w : World} {lo : Nat} {v : Value} {xs : List α} (h : RwZ s c w lo v xs) : Rw s c w v xs := by
 obtain ⟨b, cap, e, hc, _, hb, _, hx⟩ := h
 exact .inr ⟨b, 0, cap, e, hc, hb, fun j x hj k u hu => by have := hx j x hj k u hu; rwa [Nat.zero_add]⟩
theorem RwZ.later {α : Type} {s : Nat} {c : α → List Value} {w w' : World} {lo : Nat} {v : Value} {xs : List α} (h : RwZ s c w lo v xs) (k : Bl w w') : RwZ s c w' lo v xs := by
 obtain ⟨b, cap, e, hc, hlo, hb, hf, hx⟩ := h
 exact ⟨b, cap, e, hc, hlo, Nat.lt_of_lt_of_le hb (Below.size k), fun o => (bl_froz k _ _ hb).trans (hf o), fun j x hj i u hu => (bl_cell k _ _ hb).trans (hx j x hj i u hu)⟩
theorem RwZ.fresh {α : Type} {s : Nat} {c : α → List Value} {w : World} {lo : Nat} {v : Value} {xs : List α} (h : RwZ s c w lo v xs) : Fresh lo v := by
 obtain ⟨b, cap, rfl, _, hlo, _⟩ := h
 intro g hg; cases hg; exact hlo
structure But (S : Nat → Prop) (w w' : World) : Prop where
 os : w'.os = w.os
 tape : w'.tape = w.tape
 output : w'.output = w.output
 size : w.heap.size ≤ w'.heap.size
 block : ∀ k, k < w.heap.size → ¬ S k → w'.heap[k]? = w.heap[k]?
theorem But.of_bl {S : Nat → Prop} {w w' : World} (h : Bl w w') : But S w w' := ⟨Below.os h, Below.tape h, Below.output h, Below.size h, fun k hk _ => Below.block h k hk⟩
theorem But.refl (S : Nat → Prop) (w : World) : But S w w := But.of_bl (Bl.refl w)
theorem But.trans {S : Nat → Prop} {a b c : World} (h : But S a b) (k : But S b c) : But S a c :=
 ⟨k.os.trans h.os, k.tape.trans h.tape, k.output.trans h.output, Nat.le_trans h.size k.size, fun i hi hs => (k.block i (Nat.lt_of_lt_of_le hi h.size) hs).trans (h.block i hi hs)⟩
theorem But.mono {S T : Nat → Prop} {a b : World} (h : But S a b) (k : ∀ i, S i → T i) : But T a b := ⟨h.os, h.tape, h.output, h.size, fun i hi hs => h.block i hi fun e => hs (k i e)⟩
theorem But.cell {S : Nat → Prop} {a b : World} (h : But S a b) (g o : Nat) (hg : g < a.heap.size) (hs : ¬ S g) : b.cell? ⟨g, o, none⟩ = a.cell? ⟨g, o, none⟩ := World.cell?_of_block (a := ⟨g, o, none⟩) (h.block g hg hs)
theorem But.froz {S : Nat → Prop} {a b : World} (h : But S a b) (g o : Nat) (hg : g < a.heap.size) (hs : ¬ S g) : b.frozen? ⟨g, o, none⟩ = a.frozen? ⟨g, o, none⟩ := World.frozen?_of_block (a := ⟨g, o, none⟩) (h.block g hg hs)
theorem But.bl {S : Nat → Prop} {a b c : World} (h : But S b c) (k : Bl a b) (hs : ∀ i, S i → a.heap.size ≤ i) : Bl a c :=
 ⟨h.os.trans (Below.os k), h.tape.trans (Below.tape k), h.output.trans (Below.output k), Nat.le_trans (Below.size k) h.size, fun i hi => (h.block i (Nat.lt_of_lt_of_le hi (Below.size k)) fun e => by have := hs i e; omega).trans (Below.block k i hi)⟩
theorem Rw.but {α : Type} {s : Nat} {c : α → List Value} {w w' : World} {v : Value} {xs : List α} {S : Nat → Prop} (h : Rw s c w v xs) (k : But S w w') (hs : ∀ g, v.ownBlock = some g → ¬ S g) : Rw s c w' v xs := by
 rcases h with h | ⟨b, o, cap, rfl, hc, hb, hx⟩
 ·exact .inl h
 ·exact .inr ⟨b, o, cap, rfl, hc, Nat.lt_of_lt_of_le hb k.size, fun j x hj i u hu => (k.cell _ _ hb (hs b rfl)).trans (hx j x hj i u hu)⟩
theorem RwZ.but {α : Type} {s : Nat} {c : α → List Value} {w w' : World} {lo : Nat} {v : Value} {xs : List α} {S : Nat → Prop} (h : RwZ s c w lo v xs) (k : But S w w') (hs : ∀ g, v.ownBlock = some g → ¬ S g) : RwZ s c w' lo v xs := by
 obtain ⟨b, cap, rfl, hc, hlo, hb, hf, hx⟩ := h
 exact ⟨b, cap, rfl, hc, hlo, Nat.lt_of_lt_of_le hb k.size, fun o => (k.froz _ _ hb (hs b rfl)).trans (hf o), fun j x hj i u hu => (k.cell _ _ hb (hs b rfl)).trans (hx j x hj i u hu)⟩
theorem but_setCells {S : Nat → Prop} {b : Nat} (hb : S b) : ∀ (vs : List Value) (o : Nat) (w0 w : World), But S w0 w → But S w0 (w.setCells b o vs)
 | [], _, _, _, h => h
 | v :: r, o, w0, w, h => by
  show But S w0 ((w.setCell ⟨b, o, none⟩ v).setCells b (o + 1) r)
  refine but_setCells hb r (o + 1) w0 _ ⟨h.os, h.tape, h.output, by simpa using h.size, fun k hk hs => ?_⟩
  exact (Below.heap_setCell _ _ _ k (show k ≠ b from fun e => hs (e ▸ hb))).trans (h.block k hk hs)
theorem setCells_size (b : Nat) : ∀ (vs : List Value) (o : Nat) (w : World), (w.setCells b o vs).heap.size = w.heap.size
 | [], _, _ => rfl
 | v :: r, o, w => by show ((w.setCell ⟨b, o, none⟩ v).setCells b (o + 1) r).heap.size = _; rw [setCells_size b r]; simp
theorem run_copy_s {P : Program} (w : World) (dT sT ty elem : TypeId) (s b o dLen dCap : Nat) (a : Addr) (sLen sCap n : Nat) (cs : List Value)
  (hu : P.underlying dT = some (.slice elem)) (hs : (P.info? elem).map (·.size) = some s) (hn : Nat.min sLen dLen = n) (hl : cs.length = n * s)
  (hsrc : ∀ j v, cs[j]? = some v → w.cell? (a.add j) = some v) (hc : ∀ j, j < cs.length → (w.cell? ⟨b, o + j, none⟩).isSome = true) (hf : ∀ j, j < cs.length → w.frozen? ⟨b, o + j, none⟩ = false) (h1 : ∀ v ∈ cs, v.oneCell' = true) :
  (Builtin.copy_ #[dT, sT] ty #[.slice (some ⟨b, o, none⟩) dLen dCap, .slice (some a) sLen sCap]).run P w = .ok (goInt n) (w.setCells b o cs) := by
 have hld := run_loadCells_list (P := P) w a cs hsrc
 have hst := run_storeCells_cells (P := P) b o cs 0 w (by simpa using hc) (by simpa using hf) h1
 cases hq : P.info? elem with
 | none => simp [hq] at hs
 | some i =>
  have hi : i.size = s := by simpa [hq] using hs
  rw [hl] at hld
  simp [Builtin.copy_, run_underlying hu, Builtin.lenOf, Builtin.firstCells, sizeOf, typeInfo, hq, hi, hn, hld, hst]
theorem wpList_copy_s {P : Program} {w : World} {ops : Array Oper} {rest : List Oper} {o : Oper} {a : Act} {Q : Exit → Act → World → Prop} (hgd : o.guard = none) (d sr : Operand) (dT sT : TypeId)
  (ho : o.op = .call { callee := .builtin .copy, args := #[d, sr], argTypes := #[dT, sT] }) (elem : TypeId) (hu : P.underlying dT = some (.slice elem)) (s : Nat) (hsz : (P.info? elem).map (·.size) = some s)
  (g off dLen dCap : Nat) (ad : Addr) (sLen sCap : Nat) (hd : a.eval d = .slice (some ⟨g, off, none⟩) dLen dCap) (hs : a.eval sr = .slice (some ad) sLen sCap)
  (n : Nat) (cs : List Value) (hn : Nat.min sLen dLen = n) (hl : cs.length = n * s)
  (hsrc : ∀ j v, cs[j]? = some v → w.cell? (ad.add j) = some v) (hc : ∀ j, j < cs.length → (w.cell? ⟨g, off + j, none⟩).isSome = true) (hf : ∀ j, j < cs.length → w.frozen? ⟨g, off + j, none⟩ = false) (h1 : ∀ v ∈ cs, v.oneCell' = true)
  (h : ∀ w', Hid (w' = w.setCells g off cs) → wpList P ops Q rest (a.put o.dst (goInt n)) w') : wpList P ops Q (o :: rest) a w := by
 refine wpList_plain hgd fun K hK => ?_
 have hrun := run_copy_s (P := P) w dT sT o.type elem s g off dLen dCap ad sLen sCap n cs hu hsz hn hl hsrc hc hf h1
 unfold Oper.wp
 simp [execOp, ho, resolve, invoke, builtin, hd, hs, hrun, Result.andThen]
 exact hK _ _ (h _ rfl)
structure Tbl {α : Type} (s : Nat) (c : α → List Value) (w : World) (H : Nat) (B cp : Nat → Nat) (n m : Nat) (a : Nat → Nat → α) : Prop where
 hdr : ∀ i, i < n → w.cell? ⟨H, i, none⟩ = some (.slice (some ⟨B i, 0, none⟩) m (cp i))
 hlt : H < w.heap.size
 blt : ∀ i, i < n → B i < w.heap.size
 inj : ∀ i j, i < n → j < n → B i = B j → i = j
 hne : ∀ i, i < n → B i ≠ H
 cap : ∀ i, i < n → m ≤ cp i
 cells : ∀ i j, i < n → j < m → ∀ k u, (c (a i j))[k]? = some u → w.cell? ⟨B i, j * s + k, none⟩ = some u
 froz : ∀ i, i < n → ∀ o, w.frozen? ⟨B i, o, none⟩ = false
def InT (B : Nat → Nat) (n : Nat) (g : Nat) : Prop := ∃ i, i < n ∧ g = B i
theorem Tbl.later {α : Type} {s : Nat} {c : α → List Value} {w w' : World} {H : Nat} {B cp : Nat → Nat} {n m : Nat} {a : Nat → Nat → α} (h : Tbl s c w H B cp n m a) (k : Bl w w') : Tbl s c w' H B cp n m a :=
 ⟨fun i hi => (bl_cell k _ _ h.hlt).trans (h.hdr i hi), Nat.lt_of_lt_of_le h.hlt (Below.size k), fun i hi => Nat.lt_of_lt_of_le (h.blt i hi) (Below.size k), h.inj, h.hne, h.cap,
  fun i j hi hj x u hu => (bl_cell k _ _ (h.blt i hi)).trans (h.cells i j hi hj x u hu), fun i hi o => (bl_froz k _ _ (h.blt i hi)).trans (h.froz i hi o)⟩
theorem Tbl.congr {α : Type} {s : Nat} {c : α → List Value} {w : World} {H : Nat} {B cp : Nat → Nat} {n m : Nat} {a b : Nat → Nat → α} (h : Tbl s c w H B cp n m a) (e : ∀ i j, i < n → j < m → a i j = b i j) : Tbl s c w H B cp n m b :=
 { h with cells := fun i j hi hj => by rw [← e i j hi hj]; exact h.cells i j hi hj }
theorem Tbl.part {α : Type} {s : Nat} {c : α → List Value} {w : World} {H : Nat} {B cp : Nat → Nat} {n m : Nat} {a : Nat → Nat → α} (h : Tbl s c w H B cp n m a) {i k : Nat} (hi : i < n) (hk : k ≤ m) :
  Rq s c w (.slice (some ⟨B i, k * s, none⟩) (m - k) (cp i - k)) (tailH m k (a i)) := by
 have hc := h.cap i hi
 refine .inr ⟨B i, k * s, cp i - k, by simp [tailH], by simp [tailH]; omega, h.blt i hi, fun j x hj q u hu => ?_⟩
 unfold tailH at hj
 have hjl : j < m - k := by have := (List.getElem?_eq_some_iff.1 hj).1; simpa using this
 simp [hjl] at hj
 subst hj
 have := h.cells i (k + j) hi (by omega) q u hu
 rwa [Nat.add_mul] at this
theorem Tbl.first {α : Type} {s : Nat} {c : α → List Value} {w : World} {H : Nat} {B cp : Nat → Nat} {n m : Nat} {a : Nat → Nat → α} (h : Tbl s c w H B cp n m a) {i q : Nat} (hi : i < n) (hq : q ≤ m) :
  Rq s c w (.slice (some ⟨B i, 0, none⟩) q (cp i)) (rowM q a i) := by
 have hc := h.cap i hi
 refine .inr ⟨B i, 0, cp i, by simp [rowM_len], by simp [rowM_len]; omega, h.blt i hi, fun j x hj t u hu => ?_⟩
 have hjl : j < q := by have := (List.getElem?_eq_some_iff.1 hj).1; rwa [rowM_len] at this
 rw [rowM_get a i hjl] at hj
 cases hj
 have := h.cells i j hi (by omega) t u hu
 rwa [Nat.zero_add]
theorem cell_set_some {w : World} {b : Nat} {vs : List Value} {o : Nat} (hs : ∀ j, j < vs.length → (w.cell? ⟨b, o + j, none⟩).isSome = true) {q : Nat} (hq : o ≤ q) (hq2 : q < o + vs.length) {u : Value} (hu : vs[q - o]? = some u) : (w.setCells b o vs).cell? ⟨b, q, none⟩ = some u := by
 have h := World.cell?_setCells_in b vs o w hs (q - o) (by omega)
 rw [show o + (q - o) = q by omega] at h
 rw [h]
 rw [List.getElem?_eq_getElem (by omega)] at hu
 exact hu
theorem flat_get {α : Type} {s : Nat} {c : α → List Value} (hs : ∀ x, (c x).length = s) : ∀ (xs : List α) (i k : Nat) (x : α), xs[i]? = some x → k < s → (xs.flatMap c)[i * s + k]? = (c x)[k]?
 | [], i, k, x, h, _ => by simp at h
 | y :: ys, 0, k, x, h, hk => by
  simp at h
  subst h
  rw [List.flatMap_cons, List.getElem?_append_left (by rw [hs]; omega), Nat.zero_mul, Nat.zero_add]
 | y :: ys, i + 1, k, x, h, hk => by
  rw [List.flatMap_cons, List.getElem?_append_right (by rw [hs, Nat.add_mul]; omega), hs, show (i + 1) * s + k - s = i * s + k by rw [Nat.add_mul]; omega]
  exact flat_get hs ys i k x (by simpa using h) hk
theorem Tbl.put {α : Type} {s : Nat} {c : α → List Value} (hs : ∀ x, (c x).length = s) {w : World} {H : Nat} {B cp : Nat → Nat} {n m : Nat} {a b : Nat → Nat → α} (h : Tbl s c w H B cp n m a) {i k : Nat} {xs : List α} (hi : i < n) (hk : k + xs.length ≤ m)
  (e1 : ∀ j, j < xs.length → xs[j]? = some (b i (k + j))) (e2 : ∀ i' j, i' < n → j < m → ¬ (i' = i ∧ k ≤ j ∧ j < k + xs.length) → b i' j = a i' j) :
  Tbl s c (w.setCells (B i) (k * s) (xs.flatMap c)) H B cp n m b ∧ But (InT B n) w (w.setCells (B i) (k * s) (xs.flatMap c)) := by
 have hb : But (InT B n) w (w.setCells (B i) (k * s) (xs.flatMap c)) := but_setCells ⟨i, hi, rfl⟩ _ _ _ _ (But.refl _ _)
 have hfl := flat_len hs xs
 have some : ∀ j, j < (xs.flatMap c).length → (w.cell? ⟨B i, k * s + j, none⟩).isSome = true := fun j hj => by
  rw [hfl] at hj
  have hs0 : 0 < s := by rcases Nat.eq_zero_or_pos s with e | e; · subst e; simp at hj
                         · exact e
  have hd : j / s < xs.length := by rw [Nat.div_lt_iff_lt_mul hs0]; exact hj
  have hm : j % s < s := Nat.mod_lt _ hs0
  have hj' : j = j / s * s + j % s := by rw [Nat.mul_comm]; exact (Nat.div_add_mod j s).symm
  have := h.cells i (k + j / s) hi (by omega) (j % s) _ (List.getElem?_eq_getElem (by rw [hs]; exact hm))
  rw [show k * s + j = (k + j / s) * s + j % s by rw [Nat.add_mul]; omega, this]
  rfl
 refine ⟨⟨fun i' hi' => ?_, by rw [setCells_size]; exact h.hlt, fun i' hi' => by rw [setCells_size]; exact h.blt i' hi', h.inj, h.hne, h.cap, fun i' j hi' hj q u hu => ?_, fun i' hi' o => by rw [World.frozen?_setCells]; exact h.froz i' hi' o⟩, hb⟩
 ·rw [World.cell?_setCells_out _ _ _ _ _ (fun e _ => absurd e.symm (h.hne i hi))]
  exact h.hdr i' hi'
 ·by_cases hin : i' = i ∧ k ≤ j ∧ j < k + xs.length
  ·obtain ⟨rfl, h1, h2⟩ := hin
   have hql : q < s := by have := (List.getElem?_eq_some_iff.1 hu).1; rwa [hs] at this
   have hx := e1 (j - k) (by omega)
   rw [show k + (j - k) = j by omega] at hx
   have hg := flat_get hs xs (j - k) q _ hx hql
   rw [hu] at hg
   have hjk : j * s = k * s + (j - k) * s := by rw [← Nat.add_mul]; congr 1; omega
   have hle : (j - k) * s + s ≤ xs.length * s := by rw [← Nat.succ_mul]; exact Nat.mul_le_mul_right _ (by omega)
   refine cell_set_some some (by omega) (by rw [hfl]; omega) ?_
   rw [show j * s + q - k * s = (j - k) * s + q by omega]
   exact hg
  ·have ho := e2 i' j hi' hj hin
   rw [ho] at hu
   have hql : q < s := by have := (List.getElem?_eq_some_iff.1 hu).1; rwa [hs] at this
   rw [World.cell?_setCells_out _ _ _ _ _ (fun e _ => ?_)]
   ·exact h.cells i' j hi' hj q u hu
   ·simp only at e
    have hii : i' = i := h.inj i' i hi' hi e
    subst hii
    have hcase : j < k ∨ k + xs.length ≤ j := by
     rcases Nat.lt_or_ge j k with h1 | h1
     ·exact .inl h1
     ·exact .inr (Nat.le_of_not_lt fun h2 => hin ⟨rfl, h1, h2⟩)
    simp only
    rw [hfl]
    rcases hcase with h1 | h1
    ·left
     have : (j + 1) * s ≤ k * s := Nat.mul_le_mul_right _ h1
     rw [Nat.add_mul] at this
     omega
    ·right
     have : (k + xs.length) * s ≤ j * s := Nat.mul_le_mul_right _ h1
     rw [Nat.add_mul] at this
     omega
def lessH {α : Type} (K : Kd α) (ws vs : List α) (q : α) : List α := List.zipWith K.sub ws (vs.map fun x => K.mul x (K.div (K.add (K.dot ws vs) (K.dot ws vs)) q))
theorem tail_len {α : Type} (m k : Nat) (f : Nat → α) : (tailH m k f).length = m - k := by simp [tailH]
theorem tail_get {α : Type} {m k j : Nat} (f : Nat → α) (h : j < m - k) : (tailH m k f)[j]? = some (f (k + j)) := by simp [tailH, h]
theorem tail_ext {α : Type} {m k : Nat} {f : Nat → α} {xs : List α} (hl : xs.length = m - k) (h : ∀ j, j < m - k → xs[j]? = some (f (k + j))) : xs = tailH m k f := by
 refine List.ext_getElem? fun j => ?_
 by_cases hj : j < m - k
 ·rw [h j hj, tail_get f hj]
 ·rw [List.getElem?_eq_none (by omega), List.getElem?_eq_none (by rw [tail_len]; omega)]
theorem less_get {α : Type} (K : Kd α) (m k : Nat) (b : Bool) (a : Nat → Nat → α) (i : Nat) (hi : k < i) : lessH K (tailH m k (a i)) (tailH m k (vH K m k b a)) (K.dot (tailH m k (vH K m k b a)) (tailH m k (vH K m k b a))) = tailH m k (foldStep K m k b a i) := by
 refine tail_ext (by simp [lessH, tail_len]) fun j hj => ?_
 unfold lessH
 rw [List.getElem?_zipWith, List.getElem?_map, tail_get _ hj, tail_get _ hj]
 show some _ = some _
 unfold foldStep
 rw [if_neg (by omega), if_pos ⟨hi, by omega⟩]
 rfl
def partH {α : Type} (k d : Nat) (b a : Nat → Nat → α) (i c : Nat) : α := if k < i ∧ i ≤ k + d then b i c else a i c
theorem partH_zero {α : Type} (k : Nat) (b a : Nat → Nat → α) : partH k 0 b a = a := by
 funext i c
 unfold partH
 rw [if_neg (by omega)]
theorem RwZ.copy {α : Type} {s : Nat} {c : α → List Value} (hs : ∀ x, (c x).length = s) {w : World} {B g n cap : Nat} {e : TypeId} {L : List Value} (h : w.ownsRow B e s (.slice (some ⟨g, 0, none⟩) n cap) n L) {xs : List α} (hx : xs.length = n) (h0 : 0 < n) :
  RwZ s c (w.setCells g (0 * s) (xs.flatMap c)) B (.slice (some ⟨g, 0, none⟩) n cap) xs ∧ (∀ j, j < (xs.flatMap c).length → (w.cell? ⟨g, 0 + j, none⟩).isSome = true) ∧ (∀ j, w.frozen? ⟨g, 0 + j, none⟩ = false) := by
 have hfz : ∀ j, w.frozen? ⟨g, j, none⟩ = false := fun j => h.frozenAt j
 have hlt := h.lt g rfl
 have hL := h.1
 have hfl := flat_len hs xs
 have hsm : ∀ j, j < (xs.flatMap c).length → (w.cell? ⟨g, 0 + j, none⟩).isSome = true := fun j hj => by
  rw [hfl, hx] at hj
  have := h.cells rfl j _ (List.getElem?_eq_getElem (by omega))
  have hadd : (⟨g, 0, none⟩ : Addr).add j = ⟨g, 0 + j, none⟩ := by unfold Addr.add; split <;> simp_all
  rw [hadd] at this
  rw [this]; rfl
 have hcap : n ≤ cap := by
  rcases h.2 with ⟨e1, _⟩ | ⟨g', cap', cur, e1, _, _, h1, _⟩
  ·cases e1
  ·cases e1; exact h1
 refine ⟨⟨g, cap, by rw [hx], by omega, hlt.1, by rw [setCells_size]; exact hlt.2, fun o => by rw [World.frozen?_setCells]; exact hfz o, fun j x hj k u hu => ?_⟩, hsm, fun j => hfz _⟩
 have hk : k < s := by have := (List.getElem?_eq_some_iff.1 hu).1; rwa [hs] at this
 have hj' : j < xs.length := (List.getElem?_eq_some_iff.1 hj).1
 have hg := flat_get hs xs j k x hj hk
 rw [hu] at hg
 have hle : j * s + s ≤ xs.length * s := by rw [← Nat.succ_mul]; exact Nat.mul_le_mul_right _ hj'
 rw [Nat.zero_mul]
 exact cell_set_some hsm (Nat.zero_le _) (by rw [hfl]; omega) (by rw [Nat.sub_zero]; exact hg)
theorem RwZ.put0 {α : Type} {s : Nat} {c : α → List Value} (hs : ∀ x, (c x).length = s) {w : World} {B g n cap : Nat} {x y : α} {xs : List α} (h : RwZ s c w B (.slice (some ⟨g, 0, none⟩) n cap) (x :: xs)) :
  RwZ s c (w.setCells g 0 (c y)) B (.slice (some ⟨g, 0, none⟩) n cap) (y :: xs) := by
 obtain ⟨b, cap', e, hc, hlo, hb, hf, hx⟩ := h
 cases e
 refine ⟨g, cap, rfl, hc, hlo, by rw [setCells_size]; exact hb, fun o => by rw [World.frozen?_setCells]; exact hf o, fun j z hj k u hu => ?_⟩
 have hk : k < s := by have := (List.getElem?_eq_some_iff.1 hu).1; rwa [hs] at this
 cases j with
 | zero =>
  simp at hj
  subst hj
  rw [Nat.zero_mul, Nat.zero_add]
  refine cell_set_some (fun j hj => ?_) (Nat.zero_le _) (by rw [hs]; omega) (by rw [Nat.sub_zero]; exact hu)
  rw [hs] at hj
  have := hx 0 x rfl j _ (List.getElem?_eq_getElem (by rw [hs]; exact hj))
  rw [Nat.zero_mul] at this
  rw [this]; rfl
 | succ j =>
  rw [World.cell?_setCells_out _ _ _ _ _ (fun _ _ => .inr (by show 0 + (c y).length ≤ (j + 1) * s + k; rw [hs, Nat.add_mul]; omega))]
  exact hx (j + 1) z (by simpa using hj) k u hu
theorem tail_consH {α : Type} {m k : Nat} (f : Nat → α) (h : k < m) : tailH m k f = f k :: (List.range (m - k - 1)).map fun j => f (k + 1 + j) := by
 symm
 refine tail_ext (by simp; omega) fun j hj => ?_
 cases j with
 | zero => simp
 | succ j =>
  rw [List.getElem?_cons_succ, List.getElem?_map, List.getElem?_range (by omega)]
  exact congrArg some (congrArg f (by omega))
theorem add_off (a : Addr) (j : Nat) (h : a.spot = none) : a.add j = ⟨a.block, a.off + j, none⟩ := by
 obtain ⟨b, o, s⟩ := a
 simp only at h
 subst h
 unfold Addr.add
 split <;> simp_all
theorem bl_setCells {w0 : World} {b : Nat} : ∀ {w : World}, Bl w0 w → w0.heap.size ≤ b → ∀ (vs : List Value) (o : Nat), Bl w0 (w.setCells b o vs) := by
 intro w h hb vs o
 induction vs generalizing w o with
 | nil => exact h
 | cons v vs ih => exact ih (Bl.set h hb v) (o + 1)
theorem RwZ.glt {α : Type} {s : Nat} {c : α → List Value} {w : World} {lo g n cap : Nat} {xs : List α} (h : RwZ s c w lo (.slice (some ⟨g, 0, none⟩) n cap) xs) : g < w.heap.size := by
 obtain ⟨b, cap', e, _, _, hb, _⟩ := h
 cases e
 exact hb
theorem Tbl.somes {α : Type} {s : Nat} {c : α → List Value} (hs : ∀ x, (c x).length = s) {w : World} {H : Nat} {B cp : Nat → Nat} {n m : Nat} {a : Nat → Nat → α} (h : Tbl s c w H B cp n m a) {i k : Nat} {xs : List α} (hi : i < n) (hk : k + xs.length ≤ m) :
  ∀ j, j < (xs.flatMap c).length → (w.cell? ⟨B i, k * s + j, none⟩).isSome = true := fun j hj => by
 rw [flat_len hs] at hj
 have hs0 : 0 < s := by
  rcases Nat.eq_zero_or_pos s with e | e
  ·subst e; simp at hj
  ·exact e
 have hd : j / s < xs.length := by rw [Nat.div_lt_iff_lt_mul hs0]; exact hj
 have hm : j % s < s := Nat.mod_lt _ hs0
 have hj' : j = j / s * s + j % s := by rw [Nat.mul_comm]; exact (Nat.div_add_mod j s).symm
 have := h.cells i (k + j / s) hi (by omega) (j % s) _ (List.getElem?_eq_getElem (by rw [hs]; exact hm))
 rw [show k * s + j = (k + j / s) * s + j % s by rw [Nat.add_mul]; omega, this]
 rfl
def negTo {α : Type} (h : α → α) (k i : Nat) (f : Nat → Nat → α) (a b : Nat) : α := if b = k ∧ k ≤ a ∧ a < i then h (f a b) else f a b
theorem negTo_next {α : Type} (h : α → α) {k i : Nat} (hi : k ≤ i) (f : Nat → Nat → α) : negTo h k (i + 1) f = putM (negTo h k i f) i k (h (negTo h k i f i k)) := by
 funext a b
 unfold putM negTo
 by_cases h1 : a = i ∧ b = k
 ·rw [if_pos h1, if_pos (by omega), if_neg (by omega)]
  obtain ⟨rfl, rfl⟩ := h1
  rfl
 ·rw [if_neg h1]
  by_cases h2 : b = k ∧ k ≤ a ∧ a < i
  ·rw [if_pos h2, if_pos (by omega)]
  ·rw [if_neg h2, if_neg (by omega)]
theorem RwZ.putAt {α : Type} {s : Nat} {c : α → List Value} (hs : ∀ x, (c x).length = s) {w : World} {B g n cap : Nat} {xs : List α} (h : RwZ s c w B (.slice (some ⟨g, 0, none⟩) n cap) xs) {q : Nat} (hq : q < xs.length) (y : α) :
  RwZ s c (w.setCells g (q * s) (c y)) B (.slice (some ⟨g, 0, none⟩) n cap) (xs.set q y) := by
 obtain ⟨b, cap', e, hc, hlo, hb, hf, hx⟩ := h
 simp only [Value.slice.injEq, Option.some.injEq, Addr.mk.injEq] at e
 obtain ⟨⟨rfl, _⟩, rfl, rfl⟩ := e
 refine ⟨g, cap, by simp, by simpa using hc, hlo, by rw [setCells_size]; exact hb, fun o => by rw [World.frozen?_setCells]; exact hf o, fun j z hj k u hu => ?_⟩
 have hk : k < s := by have := (List.getElem?_eq_some_iff.1 hu).1; rwa [hs] at this
 rw [List.getElem?_set] at hj
 by_cases hqj : q = j
 ·subst hqj
  rw [if_pos rfl, if_pos hq] at hj
  cases hj
  refine cell_set_some (fun t ht => ?_) (by omega) (by rw [hs]; omega) (by rw [Nat.add_sub_cancel_left]; exact hu)
  rw [hs] at ht
  have := hx q _ (List.getElem?_eq_getElem hq) t _ (List.getElem?_eq_getElem (by rw [hs]; exact ht))
  rw [this]; rfl
 ·rw [if_neg hqj] at hj
  rw [World.cell?_setCells_out _ _ _ _ _ (fun _ _ => ?_)]
  ·exact hx j z hj k u hu
  ·show j * s + k < q * s ∨ q * s + (c y).length ≤ j * s + k
   rw [hs]
   rcases Nat.lt_or_gt_of_ne hqj with h1 | h1
   ·right
    have : (q + 1) * s ≤ j * s := Nat.mul_le_mul_right _ h1
    rw [Nat.add_mul] at this
    omega
   ·left
    have : (j + 1) * s ≤ q * s := Nat.mul_le_mul_right _ h1
    rw [Nat.add_mul] at this
    omega
def sgTo {α : Type} (h : α → α) (low : α → Bool) (j : Nat) (f : Nat → Nat → α) (a b : Nat) : α := if b < j ∧ b ≤ a ∧ low (f b b) = true then h (f a b) else f a b
theorem sgTo_yes {α : Type} (h : α → α) (low : α → Bool) {j n : Nat} {f : Nat → Nat → α} (hl : low (f j j) = true) {a b : Nat} (ha : a < n) : negTo h j n (sgTo h low j f) a b = sgTo h low (j + 1) f a b := by
 unfold negTo sgTo
 by_cases h1 : b = j ∧ j ≤ a ∧ a < n
 ·obtain ⟨rfl, h2, h3⟩ := h1
  rw [if_pos ⟨rfl, h2, h3⟩, if_neg (by omega), if_pos ⟨by omega, h2, hl⟩]
 ·rw [if_neg h1]
  by_cases h2 : b < j ∧ b ≤ a ∧ low (f b b) = true
  ·rw [if_pos h2, if_pos ⟨by omega, h2.2⟩]
  ·rw [if_neg h2, if_neg]
   rintro ⟨h3, h4, h5⟩
   by_cases h6 : b = j
   ·subst h6; exact h1 ⟨rfl, h4, ha⟩
   ·exact h2 ⟨by omega, h4, h5⟩
theorem sgTo_no {α : Type} (h : α → α) (low : α → Bool) {j : Nat} {f : Nat → Nat → α} (hl : low (f j j) = false) {a b : Nat} : sgTo h low (j + 1) f a b = sgTo h low j f a b := by
 unfold sgTo
 by_cases h2 : b < j ∧ b ≤ a ∧ low (f b b) = true
 ·rw [if_pos h2, if_pos ⟨by omega, h2.2⟩]
 ·rw [if_neg h2, if_neg]
  rintro ⟨h3, h4, h5⟩
  by_cases h6 : b = j
  ·subst h6; rw [hl] at h5; cases h5
  ·exact h2 ⟨by omega, h4, h5⟩
theorem sgTo_all {α : Type} {K : Kd α} (h : α → α) (low : α → Bool) {n : Nat} {f : Nat → Nat → α} {a b : Nat} (hb : b < n) (hk : K.neg = h := by rfl) : sgTo h low n f a b = signsH K (fun j => low (f j j)) f a b := by
 subst hk
 unfold sgTo signsH
 by_cases h2 : b ≤ a ∧ low (f b b) = true
 ·rw [if_pos ⟨hb, h2⟩, if_pos h2]
 ·rw [if_neg h2, if_neg fun h => h2 h.2]
def wellR (ops : Array Oper) (ds : List (Option Nat)) : Bool :=
 lowB2 ops && onceB ds && (ds.length == ops.size) && (List.range ops.size).all fun j => match ops[j]? with
  | none => true
  | some o => o.guard.isNone && (ds[j]? == some o.dst)
structure RR (R : World → World → Prop) (W : World) (a : Act) (ops : Array Oper) (ds : List (Option Nat)) (facts : Nat → Value → World → Prop) (L : Nat → Bool) (act : Act) (u : World) : Prop where
 size : act.tmps.size = a.tmps.size
 defers : act.defers = a.defers
 frame : ∀ t, (∀ j, L j = true → ds[j]? ≠ some (some t)) → act.eval (.tmp t) = a.eval (.tmp t)
 rel : R W u
 val : ∀ (j t : Nat), ds[j]? = some (some t) → L j = true → facts j (act.eval (.tmp t)) u
 non : ∀ (j : Nat), ds[j]? = some none → L j = true → facts j undef u
theorem once_ne {ds : List (Option Nat)} (ho : onceB ds = true) : ∀ (i j t t' : Nat), ds[i]? = some (some t) → ds[j]? = some (some t') → i ≠ j → t ≠ t' := by
 have : ∀ (ds : List (Option Nat)), onceB ds = true → ∀ (i j t t' : Nat), ds[i]? = some (some t) → ds[j]? = some (some t') → i < j → t ≠ t' := by
  intro ds
  induction ds with
  | nil => intro _ i j t t' h; simp at h
  | cons d ds ih =>
   intro ho i j t t' h1 h2 hij
   simp only [onceB, Bool.and_eq_true] at ho
   cases j with
   | zero => omega
   | succ j =>
    cases i with
    | zero =>
     simp at h1 h2
     subst h1
     have := ho.1
     simp at this
     exact fun e => this _ (List.mem_of_getElem? h2) (by rw [e])
    | succ i => exact ih ho.2 i j t t' (by simpa using h1) (by simpa using h2) (by omega)
 intro i j t t' h1 h2 hij
 rcases Nat.lt_or_gt_of_ne hij with h | h
 ·exact this ds ho i j t t' h1 h2 h
 ·exact (this ds ho j i t' t h2 h1 h).symm
theorem region_r {F : Fence} {n : Nat} {P : Program} {ops : Array Oper} {Q : Exit → Act → World → Prop} {a : Act} {W : World} {id : Nat} (hm : P.follows .mixedOrders = true) (R : World → World → Prop) (ds : List (Option Nat)) (hw : wellR ops ds = true)
  (hsz0 : ds.all (fun d => match d with | some t => Nat.blt t a.tmps.size | none => true) = true) (h0 : R W W.drew) (hR : ∀ {x y z}, R x y → R y z → R x z) (facts : Nat → Value → World → Prop) (mono : ∀ j v u u', R W u → R u u' → facts j v u → facts j v u')
  (step : ∀ (j : Nat) (o : Oper) (act : Act) (u : World), ops[j]? = some o → act.tmps.size = a.tmps.size → R W u → (∀ t, some t ∉ ds → act.eval (.tmp t) = a.eval (.tmp t)) → (∀ e ∈ o.after, Region.binds .any e = true → ∀ t, ds[e.on]? = some (some t) → facts e.on (act.eval (.tmp t)) u) → (∀ e ∈ o.after, Region.binds .any e = true → ds[e.on]? = some none → facts e.on undef u) →
   Oper.wpIn F n P o act u (fun act' u' => ∃ v, act' = act.put o.dst v ∧ facts j (if o.dst.isSome then v else undef) u' ∧ R u u') Q)
  (fin : ∀ (vs : Nat → Value) (u : World), R W u → (∀ (j : Nat) (t : Nat), ds[j]? = some (some t) → facts j (vs j) u) → (∀ (j : Nat), ds[j]? = some none → facts j undef u) → Q .normal (putL ds vs 0 a) u) :
  (Code.region id ops true).wpIn F n P Q a W := by
 simp only [wellR, Bool.and_eq_true] at hw
 obtain ⟨⟨⟨hlow, honce⟩, hlen⟩, hall'⟩ := hw
 have hlen' : ds.length = ops.size := by simpa using hlen
 have key : ∀ (j : Nat) (o : Oper), ops[j]? = some o → o.guard = none ∧ ds[j]? = some o.dst := fun j o ho => by
  have := List.all_eq_true.1 hall' j (by simpa using (Array.getElem?_eq_some_iff.1 ho).1)
  rw [ho] at this
  simpa using this
 have hsz : ∀ t, some t ∈ ds → t < a.tmps.size := fun t ht => by have := List.all_eq_true.1 hsz0 _ ht; rw [Nat.blt_eq] at this; exact this
 have hlt : ∀ (j : Nat) d, ds[j]? = some d → j < ops.size := fun j d h => by have := (List.getElem?_eq_some_iff.1 h).1; rw [hlen'] at this; exact this
 have hne := once_ne honce
 refine region_facts2 hm (lowB2_low hlow) (RR R W a ops ds facts) ?_ ?_ ?_
 ·exact ⟨rfl, rfl, fun _ _ => rfl, h0, (by intro _ _ _ h; cases h), (by intro _ _ h; cases h)⟩
 ·intro L act u i o hI ho hLi hall
  refine step_wp ho (key i o ho).1 ?_
  have hdi := (key i o ho).2
  have hfr : ∀ t, some t ∉ ds → act.eval (.tmp t) = a.eval (.tmp t) := fun t ht => hI.frame t (fun j _ e => ht (List.mem_of_getElem? e))
  refine Oper.wpIn_mono ?_ (step i o act u ho hI.size hI.rel hfr (fun e he hbe t' ht' => hI.val e.on t' ht' (hall e he hbe)) (fun e he hbe hd => hI.non e.on hd (hall e he hbe)))
  rintro act' u' ⟨v, rfl, hf, hr⟩
  have hval : ∀ (j t : Nat), ds[j]? = some (some t) → (L j || (j == i)) = true → facts j ((act.put o.dst v).eval (.tmp t)) u' := fun j t h hj => by
   by_cases e : j = i
   ·subst e
    rw [hdi] at h
    have hd : o.dst = some t := Option.some.inj h
    rw [hd] at hf ⊢
    rw [eval_put_same (by rw [hI.size]; exact hsz t (List.mem_of_getElem? (by rw [hdi, hd])))]
    exact hf
   ·have hLj : L j = true := by
     rw [Bool.or_eq_true] at hj
     rcases hj with hj | hj
     ·exact hj
     ·exact absurd (by simpa using hj) e
    rw [eval_put_ne (fun e2 => hne j i t t h (by rw [hdi, e2]) e rfl)]
    exact mono j _ u u' hI.rel hr (hI.val j t h hLj)
  refine ⟨by rw [size_put]; exact hI.size, by rw [defers_put]; exact hI.defers, fun t ht => ?_, hR hI.rel hr, hval, fun j hd hj => ?_⟩
  ·rw [eval_put_ne (fun e => ht i (by simp) (by rw [hdi, e]))]
   exact hI.frame t (fun j hj => ht j (by rw [hj]; rfl))
  ·by_cases e : j = i
   ·subst e
    rw [hdi] at hd
    have hd' : o.dst = none := Option.some.inj hd
    rw [hd'] at hf
    exact hf
   ·have hLj : L j = true := by
     rw [Bool.or_eq_true] at hj
     rcases hj with hj | hj
     ·exact hj
     ·exact absurd (by simpa using hj) e
    exact mono j _ u u' hI.rel hr (hI.non j hd hLj)
 ·intro L act u hI hall
  have hL : ∀ j d, ds[j]? = some d → L j = true := fun j d h => hall j (hlt j d h)
  have e : act = putL ds (fun j => act.eval (.tmp ((ds[j]?.getD none).getD 0))) 0 a := by
   refine act_ext (by rw [putL_size]; exact hI.size) (by rw [putL_defers]; exact hI.defers) fun t ht => ?_
   by_cases hm' : some t ∈ ds
   ·obtain ⟨j, hj⟩ := List.getElem?_of_mem hm'
    rw [putL_at ds _ t j 0 a honce hj (by rw [← hI.size]; exact ht), Nat.zero_add, hj]
    rfl
   ·rw [putL_other ds _ t 0 a (fun d hd e => hm' (by rw [← e]; exact hd))]
    exact hI.frame t (fun j _ e => hm' (List.mem_of_getElem? e))
  rw [e]
  exact fin _ u hI.rel (fun j t h => by have := hI.val j t h (hL j _ h); simpa [h] using this) (fun j h => hI.non j h (hL j _ h))
theorem Mx.but {α : Type} {s : Nat} {c : α → List Value} {w w' : World} {R C : Nat} {p : Option Addr} {n cap : Nat} {f : Nat → Nat → α} {S : Nat → Prop} (h : Mx s c w R C p n cap f) (k : But S w w') (hs : ∀ g, (Value.slice p n cap).ownBlock = some g → ¬ S g) : Mx s c w' R C p n cap f :=
 ⟨h.1, h.2.1, by
  rcases h.2.2 with h | ⟨b, o, cap', e, hc, hb, hx⟩
  ·exact .inl h
  ·exact .inr ⟨b, o, cap', e, hc, Nat.lt_of_lt_of_le hb k.size, fun j x hj i u hu => (k.cell _ _ hb (hs b (by rw [e]; rfl))).trans (hx j x hj i u hu)⟩⟩
theorem MBox.but {w w' : World} {b : Nat} {r c : Int} {p : Option Addr} {n cap : Nat} {S : Nat → Prop} (h : MBox w b r c p n cap) (k : But S w w') (hs : ¬ S b) : MBox w' b r c p n cap :=
 ⟨(k.cell _ _ h.lt hs).trans h.c0, (k.cell _ _ h.lt hs).trans h.c1, (k.cell _ _ h.lt hs).trans h.c2, (k.froz _ _ h.lt hs).trans h.f0, (k.froz _ _ h.lt hs).trans h.f1, (k.froz _ _ h.lt hs).trans h.f2, Nat.lt_of_lt_of_le h.lt k.size⟩
theorem SBox.heap {w w' : World} {b : Nat} {px : Option Addr} {nx cx : Nat} {r c : Int} {p : Option Addr} {n cap : Nat} (h : SBox w b px nx cx r c p n cap) (e : w'.heap[b]? = w.heap[b]?) (hs : w.heap.size ≤ w'.heap.size) : SBox w' b px nx cx r c p n cap :=
 ⟨(World.cell?_of_block (a := ⟨b, 0, none⟩) e).trans h.c0, (World.cell?_of_block (a := ⟨b, 1, none⟩) e).trans h.c1, (World.cell?_of_block (a := ⟨b, 2, none⟩) e).trans h.c2, (World.cell?_of_block (a := ⟨b, 3, none⟩) e).trans h.c3,
  (World.frozen?_of_block (a := ⟨b, 0, none⟩) e).trans h.f0, (World.frozen?_of_block (a := ⟨b, 1, none⟩) e).trans h.f1, (World.frozen?_of_block (a := ⟨b, 2, none⟩) e).trans h.f2, (World.frozen?_of_block (a := ⟨b, 3, none⟩) e).trans h.f3, Nat.lt_of_lt_of_le h.lt hs⟩
structure TwoJ (g l : Nat) (G T : World → Prop) (x y : World) : Prop where
 but : But (fun i => i = g ∨ i = l) x y
 g8 : y.heap[g]? = x.heap[g]? ∨ G y
 l9 : y.heap[l]? = x.heap[l]? ∨ T y
theorem TwoJ.bl {g l : Nat} {G T : World → Prop} {x y : World} (h : Bl x y) (hg : g < x.heap.size) (hl : l < x.heap.size) : TwoJ g l G T x y :=
 ⟨But.of_bl h, .inl (Below.block h g hg), .inl (Below.block h l hl)⟩
theorem TwoJ.trans {g l : Nat} {G T : World → Prop} (hG : ∀ x y, G x → But (fun i => i = g ∨ i = l) x y → y.heap[g]? = x.heap[g]? → G y) (hT : ∀ x y, T x → But (fun i => i = g ∨ i = l) x y → y.heap[l]? = x.heap[l]? → T y) {x y z : World} (h : TwoJ g l G T x y) (k : TwoJ g l G T y z) : TwoJ g l G T x z := by
 refine ⟨h.but.trans k.but, ?_, ?_⟩
 ·rcases k.g8 with e | t
  ·rcases h.g8 with e' | t
   ·exact .inl (e.trans e')
   ·exact .inr (hG _ _ t k.but e)
  ·exact .inr t
 ·rcases k.l9 with e | t
  ·rcases h.l9 with e' | t
   ·exact .inl (e.trans e')
   ·exact .inr (hT _ _ t k.but e)
  ·exact .inr t
theorem but_cell1 {S : Nat → Prop} {b : Nat} (hb : S b) (o : Nat) (v : Value) (u : World) : But S u (u.setCell ⟨b, o, none⟩ v) :=
 ⟨rfl, rfl, rfl, by simp, fun k _ hs => Below.heap_setCell _ _ _ k (by show k ≠ b; exact fun e => hs (e ▸ hb))⟩
theorem heap1 {g l : Nat} (u : World) (h : l ≠ g) (o : Nat) (v : Value) : (u.setCell ⟨g, o, none⟩ v).heap[l]? = u.heap[l]? := Below.heap_setCell _ _ _ l (by show l ≠ g; exact h)
end Go.Proofs.YtljmggemdkfbiaaGreat
namespace Go.Proofs.YtljmggemdkfbiaaGreat
open Go.RowKit Go.Shelf
set_option linter.unusedSimpArgs false
set_option linter.unusedVariables false
attribute [local go_sem] Oper.semAt_some
set_option maxRecDepth 100000 in
set_option maxHeartbeats 4000000 in
theorem mApplyF' (R M : Nat) (p : Option Addr) (n cap : Nat) (f : Nat → Nat → Fr) (q : Option Addr) (cap2 : Nat) (xs : List Fr) (w : World) (hx : Mx 3 cellsF w R M p n cap f) (hy : Rq 3 cellsF w (.slice q M cap2) xs) (hl : xs.length = M) :
  Calls Tryz.prog 43 #[mV R M p n cap, .slice q M cap2] w fun e w' => ∃ p' cap', e = .returned (.tuple #[.slice p' R cap', .bool true]) ∧ Rw 3 cellsF w' (.slice p' R cap') ((List.range R).map fun i => dotF (rowM M f i) xs) ∧ Fresh w.heap.size (.slice p' R cap') ∧ Bl w w' := by
 obtain ⟨i0, hi, hz0, hz1, hz2⟩ := info_parts Tryz.info_F
 refine (callsIn_wide (n := 8)).1 ?_
 have hfx := hx.fit
 have hdR := hx.1
 have hR16 := hdR.r2
 have hM16 := hdR.c2
 have HXm := hideP hx
 have HYm := hideP hy
 have HL := hideP hl
 clear hx hy hl
 obtain ⟨W, hW⟩ : ∃ W, W = (w.alloc (.cells #[.int .i64 R, .int .i64 M, .slice p n cap] 30)).alloc (.cells #[.slice q M cap2] 28) := ⟨_, rfl⟩
 have b0 : Bl w W := by rw [hW]; exact ((Bl.refl _).alloc _).alloc _
 have mx0 : MBox W w.heap.size R M p n cap := by rw [hW]; exact (MBox.new w _ _ _ _ _ _).later ((Bl.refl _).alloc _)
 have my0 : Boxed W (w.heap.size + 1) 28 (.slice q M cap2) := by rw [hW]; have := Boxed.new (w.alloc (.cells #[.int .i64 R, .int .i64 M, .slice p n cap] 30)) 28 (.slice q M cap2); rw [World.size_alloc] at this; exact this
 have hs0 : W.heap.size = w.heap.size + 1 + 1 := by rw [hW]; simp
 have HW := hideP hW
 clear hW
 refine callsIn_of_wp_marks Tryz.func43 rfl trivial ?_ rfl
 simp only [Tryz.ntmps43, List.size_toArray, List.length_cons, List.length_nil, Nat.reduceAdd, Nat.reduceSub, Array.replicate_succ, Array.replicate_zero, List.push_toArray, List.append_toArray, List.nil_append, List.cons_append]
 gi_wp2_with fail
 rw [← HW.out]
 refine ⟨trivial, ?_⟩
 refine (callsIn_wide.2 (mRightF _ _ _ _ _ _)).mono ?_
 rintro e w5 ⟨rfl, h5⟩
 rw [hfx]
 have mx5 := mx0.later h5
 have my5 := boxed_bl my0 h5
 have bw5 : Bl w w5 := b0.trans h5
 obtain ⟨c0, c1, c2, f0, f1, f2, lt⟩ := id mx5
 have d0 := my5.cell
 gi_wp2_with (gi_at_make; refine wpListIn_make_own _ rfl _ _ 28 rfl w5.heap.size 34 i0 (.agg #[.int .i64 0, .int .i64 0, .bool false]) 3 Tryz.underlying28 hi hz0 hz1 .i64 .i64 _ R rfl rfl (by simp) (by rw [hz2]; omega) (by unfold maxLen; omega) (by simp) ?_; intro w6 hown0 hgrow0; have mx6 := mbox_block mx5 (hgrow0.block _ mx5.lt nofun) hgrow0.size; clear c0 c1 c2 f0 f1 f2 d0 lt; obtain ⟨c0, c1, c2, f0, f1, f2, lt⟩ := mx6)
 have h56 : Bl w5 w6 := ⟨hgrow0.os, hgrow0.tape, hgrow0.output, hgrow0.size, fun k hk => hgrow0.block k hk nofun⟩
 have hs6 : w5.heap.size ≤ w6.heap.size := hgrow0.size
 obtain ⟨w6b, hw6b⟩ : ∃ w6b, w6b = w6.alloc (.cells #[.slice (some ⟨w5.heap.size, 0, none⟩) 0 R] 28) := ⟨_, rfl⟩
 have h6b : Bl w6 w6b := by rw [hw6b]; exact (Bl.refl _).alloc _
 have hs6b : w6b.heap.size = w6.heap.size + 1 := by rw [hw6b]; simp
 have bl6 : Boxed w6b w6.heap.size 28 (.slice (some ⟨w5.heap.size, 0, none⟩) 0 R) := by rw [hw6b]; exact Boxed.new w6 _ _
 have hown6 : w6b.ownsRow w5.heap.size 34 3 (.slice (some ⟨w5.heap.size, 0, none⟩) 0 R) 0 [] := own_blF hown0 h6b
 have hlt5 : w5.heap.size < w6b.heap.size := by have := (hown6.lt w5.heap.size rfl).2; exact this
 have HW6 := hideP hw6b
 clear hw6b hown0 hgrow0 c0 c1 c2 f0 f1 f2 lt
 rw [← HW6.out]
 refine ⟨trivial, ?_⟩
 refine (callsIn_wide.2 (mAllF _ _ _ _ _ f _ (HXm.out.later ((bw5.trans h56).trans h6b)))).mono ?_
 rintro e w7 ⟨B2, p2, cap5, rfl, hK7, h7⟩
 have HK7 := hideP hK7
 clear hK7
 have hs7 : w6.heap.size + 1 ≤ w7.heap.size := by have := h7.size; omega
 have b57 : Below w5.heap.size w5 w7 := (h56.trans h6b).trans h7
 have bl7 := boxed_bl bl6 h7
 have own7 := own_blF hown6 h7
 clear bl6 hown6
 gi_wp2_with fail
 refine rangeV rfl (by omega) (gf := 128) (lb := #[.pointer (some ⟨B2, 0, none⟩)]) rfl trivial (enters_of Tryz.func128 (by kernel_rfl) rfl)
  (seqMF 7 B2 _ w7.heap.size R M p2 n cap5 f w7 (Nat.le_refl _) HK7.out) (fun x A B h => h.1) (fun h k => h.trans k) (span_b (Nat.le_refl _)) (fun _ => rfl)
  (fun (pre : List RowX) U => (∃ v, Boxed U w6.heap.size 28 v ∧ U.ownsRow w5.heap.size 34 3 v (pre.map fun x : RowX => dotF (rowM M f x.1) xs).length ((pre.map fun x : RowX => dotF (rowM M f x.1) xs).flatMap cellsF) ∧ (∀ b, v.ownBlock = some b → b < w6b.heap.size ∨ w7.heap.size ≤ b)) ∧ (Below w5.heap.size w5 U ∧ w7.heap.size ≤ U.heap.size))
  (fun _ _ _ => False)
  (OwnFrom.and (Own.from (holdsRow_own w5.heap.size w6.heap.size 28 34 3 (fun pre : List RowX => (pre.map fun x : RowX => dotF (rowM M f x.1) xs).length) (fun pre : List RowX => (pre.map fun x : RowX => dotF (rowM M f x.1) xs).flatMap cellsF) (fun _ v => ∀ b, v.ownBlock = some b → b < w6b.heap.size ∨ w7.heap.size ≤ b)) _) (OwnFrom.and (ownFrom_below (Nat.le_refl _) b57.size) (own_size _ _)))
  (fun _ _ _ _ _ hs _ _ => hs)
  ⟨⟨_, bl7, own7, fun b hb => by cases hb; exact .inl hlt5⟩, b57, Nat.le_refl _⟩
  (fun a x a' U => Rw 3 cellsF U (rowV M x) (rowM M f x.1) ∧ a' = { tmps := (((a.tmps.setIfInBounds 24 (.int .i64 x.1)).setIfInBounds 25 (rowV M x)).setIfInBounds 8 (rowV M x)), defers := [] })
  (fun x a' _ X Y row hs hg hr => ⟨rw_own hs.1 hg (fun r e => (hr r e).2), hs.2⟩)
  ?assign ?body ?done ?stop
 case assign =>
  rintro l pre x W0 U K' _ ⟨hbU, hxR, hrow, hfr, hcc⟩ hI hK'
  have HK2 := hideP hK'
  have HI := hideP hI
  clear hK' hI
  gi_wp2
  exact HK2.out _ _ (KeepsFrom.refl _ _) (Span.refl _ _ _) HI.out ⟨hrow, rfl⟩
 case body =>
  rintro l pre x a' U hl' ⟨r, hr'⟩ ⟨⟨v, hv, hrow, hgv⟩, hbU, hsU⟩ ⟨hrx, rfl⟩ hlt
  simp only [List.setIfInBounds_toArray, List.set_cons_zero, List.set_cons_succ]
  gi_wp2_with fail
  have hbv := boxed_bl (show Boxed w5 _ _ _ from my5) hbU
  have hC := fun u (hu : Bl U u) => vDotF (rowV M x) (.slice q M cap2) (rowM M f x.1) xs u (hrx.later hu).q (HYm.out.later ((bw5.trans hbU).trans hu)) (by rw [rowM_len]; omega) (by rw [HL.out]; omega)
  have hlen2 : (pre.map fun x : RowX => dotF (rowM M f x.1) xs).length ≤ 100000 := by rw [List.length_map]; omega
  refine dotAppendF (ops := _) rfl (by kernel_rfl) 26 6 47 (by simp) (by omega) ⟨rfl, rfl, rfl⟩ ⟨rfl, rfl⟩ ⟨rfl, rfl⟩ ⟨rfl, rfl, rfl⟩ ⟨rfl, rfl, rfl⟩ ⟨rfl, rfl, rfl⟩ ⟨rfl, rfl, rfl⟩ ⟨by simp, by simp⟩ (by simp) ⟨by simp, by simp⟩ (by simp)
   (rowV M x) (.slice q M cap2) (fun act u K' hfr hu hk => move_wp (.tmp 8) rfl (by rw [hfr 8 (by omega)]; exact hk))
   (fun act u K' hfr hu hk => load_wp 28 (.tmp 3) rfl (by rw [hfr 3 (by omega)]; exact Tryz.load1F (w.heap.size + 1) _ u (boxed_bl hbv hu).cell) hk)
   trivial (fun _ => by omega) (enters_of Tryz.func47 (by kernel_rfl) rfl) (dotF (rowM M f x.1) xs)
   (fun u hu => CallsIn.inRound l (callsIn_wide.2 (hC u hu)))
   w6.heap.size rfl v hv w5.heap.size (pre.map fun x : RowX => dotF (rowM M f x.1) xs) hrow hlen2 (by have := b57.size; omega) ?_
  intro act u0 w8 g' cap' k1 k2 k3 k4
  have hvu := boxed_bl hv k1
  have hru := own_blF hrow k1
  have hsu := k1.size
  have hu5 : w5.heap.size ≤ u0.heap.size := by have := b57.size; omega
  obtain ⟨hv5, hv6, hr6, hk6, hb6⟩ := boxed_appended hvu (by decide) hru hu5 (by omega) k3 k2
  have hg8 := k2.size
  refine ⟨(k1.keeps _).trans (hk6.from _), span_appended k1 (by omega) hgv k2 (by omega), ⟨_, hv6, ?_, ?_⟩, ?_, ?_⟩
  ·rw [List.map_append]
   simpa [List.flatMap_append] using hr6
  ·intro b hb
   have hb' : g' = b := by cases hb; rfl
   subst hb'
   rcases k4 with h | h
   ·exact hgv _ h.symm
   ·exact .inr (by omega)
  ·exact hbU.trans ((k1.mono (by have := b57.size; omega)).trans hb6)
  ·simp; omega
 case done =>
  rintro Dm zs U hD hS ⟨⟨v, hv, hrow, _⟩, hb5, hs7'⟩ hKD
  have e : (zs.map fun x : RowX => dotF (rowM M f x.1) xs) = (List.range R).map fun i => dotF (rowM M f i) xs := by rw [← hS, List.map_map]; rfl
  rw [e] at hrow
  have RW := Rw.of_own cellsF_len (ownsRow_putObj hrow (.deferred none) hKD rfl)
  obtain ⟨p', cap', hv', _, _⟩ := RW.cut
  rw [List.length_map, List.length_range] at hv'
  subst hv'
  have hcl := hv.cell
  have hbw : Bl w U := bw5.trans hb5
  have HFR := hideP (show Fresh w.heap.size (.slice p' R cap') from fun g hg => by have := (hrow.lt g hg).1; have := bw5.size; omega)
  have HRW := hideP RW
  have HKD := hideP hKD
  clear hrow RW hKD hv
  gi_wp2
  refine ⟨by simp, .inl ⟨_, _, rfl, run_takeDeferred HKD.out, ?_⟩⟩
  exact ⟨_, results_tmp2 rfl _ _ _, p', cap', rfl, HRW.out, HFR.out, Below.trans hbw (belowK_b (w := w) (Nat.le_refl _) U Dm _ _ (by have := bw5.size; have := b57.size; omega) HKD.out rfl rfl)⟩
 case stop =>
  rintro D' c pre U _ _ h _
  exact h.elim
end Go.Proofs.YtljmggemdkfbiaaGreat
namespace Go.Proofs.YtljmggemdkfbiaaGreat
open Go.RowKit
set_option linter.unusedSimpArgs false
set_option linter.unusedVariables false
abbrev newsVF (x y : Fr) : Value := .agg #[.int .i64 x.n, .int .i64 x.d, .bool x.bad, .int .i64 y.n, .int .i64 y.d, .bool y.bad]
structure NBoxF (w : World) (b : Nat) (x y : Fr) : Prop where
 c0 : w.cell? ⟨b, 0, none⟩ = some (.int .i64 x.n)
 c1 : w.cell? ⟨b, 1, none⟩ = some (.int .i64 x.d)
 c2 : w.cell? ⟨b, 2, none⟩ = some (.bool x.bad)
 c3 : w.cell? ⟨b, 3, none⟩ = some (.int .i64 y.n)
 c4 : w.cell? ⟨b, 4, none⟩ = some (.int .i64 y.d)
 c5 : w.cell? ⟨b, 5, none⟩ = some (.bool y.bad)
 f0 : w.frozen? ⟨b, 0, none⟩ = false
 f1 : w.frozen? ⟨b, 1, none⟩ = false
 f2 : w.frozen? ⟨b, 2, none⟩ = false
 f3 : w.frozen? ⟨b, 3, none⟩ = false
 f4 : w.frozen? ⟨b, 4, none⟩ = false
 f5 : w.frozen? ⟨b, 5, none⟩ = false
 lt : b < w.heap.size
theorem NBoxF.heap {w w' : World} {b : Nat} {x y : Fr} (h : NBoxF w b x y) (e : w'.heap[b]? = w.heap[b]?) (hs : w.heap.size ≤ w'.heap.size) : NBoxF w' b x y :=
 ⟨(World.cell?_of_block (a := ⟨b, 0, none⟩) e).trans h.c0, (World.cell?_of_block (a := ⟨b, 1, none⟩) e).trans h.c1, (World.cell?_of_block (a := ⟨b, 2, none⟩) e).trans h.c2, (World.cell?_of_block (a := ⟨b, 3, none⟩) e).trans h.c3, (World.cell?_of_block (a := ⟨b, 4, none⟩) e).trans h.c4, (World.cell?_of_block (a := ⟨b, 5, none⟩) e).trans h.c5, (World.frozen?_of_block (a := ⟨b, 0, none⟩) e).trans h.f0, (World.frozen?_of_block (a := ⟨b, 1, none⟩) e).trans h.f1, (World.frozen?_of_block (a := ⟨b, 2, none⟩) e).trans h.f2, (World.frozen?_of_block (a := ⟨b, 3, none⟩) e).trans h.f3, (World.frozen?_of_block (a := ⟨b, 4, none⟩) e).trans h.f4, (World.frozen?_of_block (a := ⟨b, 5, none⟩) e).trans h.f5, Nat.lt_of_lt_of_le h.lt hs⟩
theorem NBoxF.later {w w' : World} {b : Nat} {x y : Fr} (h : NBoxF w b x y) (k : Bl w w') : NBoxF w' b x y := h.heap (Below.block k b h.lt) (Below.size k)
theorem NBoxF.new (w : World) (x y : Fr) (t : TypeId) : NBoxF (w.alloc (.cells #[.int .i64 x.n, .int .i64 x.d, .bool x.bad, .int .i64 y.n, .int .i64 y.d, .bool y.bad] t)) w.heap.size x y := by
 refine ⟨?_, ?_, ?_, ?_, ?_, ?_, ?_, ?_, ?_, ?_, ?_, ?_, by simp⟩ <;> simp [go_sem]
theorem NBoxF.fill {u : World} {b : Nat} {x y : Fr} (h : NBoxF u b x y) (x' y' : Fr) : NBoxF ((((((u.setCell ⟨b, 0, none⟩ (.int .i64 x'.n)).setCell ⟨b, 1, none⟩ (.int .i64 x'.d)).setCell ⟨b, 2, none⟩ (.bool x'.bad)).setCell ⟨b, 3, none⟩ (.int .i64 y'.n)).setCell ⟨b, 4, none⟩ (.int .i64 y'.d)).setCell ⟨b, 5, none⟩ (.bool y'.bad)) b x' y' := by
 obtain ⟨c0, c1, c2, c3, c4, c5, f0, f1, f2, f3, f4, f5, lt⟩ := h
 refine ⟨?_, ?_, ?_, ?_, ?_, ?_, ?_, ?_, ?_, ?_, ?_, ?_, ?_⟩ <;> simp [go_sem, *]
theorem scale_linF (p : Option Addr) (n cap : Nat) (x : Nat → Fr) (b : Fr) (w : World) (h : Rw 3 cellsF w (.slice p n cap) (linJ n x)) (hl : n ≤ 1000000) :
  Calls Tryz.prog 50 #[.slice p n cap, frV b] w fun e w' => ∃ q c, e = .returned (.slice q n c) ∧ Rw 3 cellsF w' (.slice q n c) (linJ n fun i => mulR (x i) b) ∧ Bl w w' :=
 (vScaleF _ _ b w h (by rw [linJ_len]; exact hl)).mono fun e w' ⟨u, he, hr, hb⟩ => by
  rw [linJ_map] at hr
  obtain ⟨q, c, rfl, _, _⟩ := hr.cut
  rw [linJ_len] at hr he
  exact ⟨q, c, he, hr, hb⟩
theorem add_linF (p q : Option Addr) (n cap cap2 : Nat) (x y : Nat → Fr) (w : World) (h : Rq 3 cellsF w (.slice p n cap) (linJ n x)) (h2 : Rq 3 cellsF w (.slice q n cap2) (linJ n y)) (hl : n ≤ 1000000) :
  Calls Tryz.prog 49 #[.slice p n cap, .slice q n cap2] w fun e w' => ∃ q c, e = .returned (.slice q n c) ∧ (Rw 3 cellsF w' (.slice q n c) (linJ n fun i => addR (x i) (y i)) ∧ Fresh w.heap.size (.slice q n c)) ∧ Bl w w' :=
 (vAddF' _ _ _ _ w h h2 (by rw [linJ_len]; exact hl) (by rw [linJ_len]; exact hl)).mono fun e w' ⟨u, he, hr, hf, hb⟩ => by
  rw [linJ_zip] at hr
  obtain ⟨q, c, rfl, _, _⟩ := hr.cut
  rw [linJ_len] at hr hf he
  exact ⟨q, c, he, ⟨hr, hf⟩, hb⟩
theorem Tryz.buildNF (x y : Fr) (u : World) : (Instr.build 41 #[(0, frV x), (1, frV y)]).run Tryz.prog u = .ok (newsVF x y) u := by kernel_rfl
def edgeB (ops : Array Oper) (i j : Nat) : Bool := match ops[i]? with
 | none => false
 | some o => o.after.any fun e => (e.on == j) && Region.binds .any e
theorem edge_of {ops : Array Oper} {i j : Nat} (h : edgeB ops i j = true) : ∃ (o : Oper) (e : Edge), ops[i]? = some o ∧ e ∈ o.after ∧ e.on = j ∧ Region.binds .any e = true := by
 unfold edgeB at h
 cases ho : ops[i]? with
 | none => rw [ho] at h; cases h
 | some o =>
  rw [ho] at h
  simp only [Array.any_eq_true'] at h
  obtain ⟨e, he, hb⟩ := h
  simp only [Bool.and_eq_true, beq_iff_eq] at hb
  exact ⟨o, e, rfl, he, hb.1, hb.2⟩
def wellU (ops : Array Oper) (ds : List (Option Nat)) (k : Nat) : Bool :=
 lowB2 ops && onceB ds && (ds.length == ops.size) && (ops.size == k + 10) && ((List.range ops.size).all fun j => match ops[j]? with
  | none => true
  | some o => o.guard.isNone && (ds[j]? == some o.dst)) && ((List.range k).all fun j => (List.range (k + 1)).any fun i => decide (j < i) && edgeB ops i j)
  && ((List.range k).all fun j => match ds[j]? with
   | some (some _) => true
   | _ => false) && edgeB ops (k + 1) k && edgeB ops (k + 2) (k + 1) && edgeB ops (k + 3) (k + 1) && edgeB ops (k + 4) (k + 1) && edgeB ops (k + 7) (k + 5) && edgeB ops (k + 7) (k + 2) && edgeB ops (k + 8) (k + 6) && edgeB ops (k + 8) (k + 3) && edgeB ops (k + 8) (k + 7) && edgeB ops (k + 9) (k + 4)
structure Upd (δ : Type) where
 v0 : δ → Value
 v1 : δ → Value
 v2 : δ → Value
 dat : δ → World → Prop
 off : δ → Nat → Prop
 za : World → Nat → Prop
 zb : World → Nat → Prop
 sa : δ → World → Nat → Prop
 sb : δ → World → Nat → Prop
structure UpdOk {δ : Type} (U : Upd δ) : Prop where
 dat_bl : ∀ D u u', U.dat D u → Bl u u' → U.dat D u'
 dat_off : ∀ D u b, U.dat D u → u.heap.size ≤ b → U.off D b
 za_heap : ∀ u u' b, U.za u b → b < u.heap.size → u'.heap[b]? = u.heap[b]? → u.heap.size ≤ u'.heap.size → U.za u' b
 zb_heap : ∀ u u' b, U.zb u b → b < u.heap.size → u'.heap[b]? = u.heap[b]? → u.heap.size ≤ u'.heap.size → U.zb u' b
 sa_heap : ∀ D u u' b, U.sa D u b → b < u.heap.size → u'.heap[b]? = u.heap[b]? → u.heap.size ≤ u'.heap.size → U.sa D u' b
 sb_heap : ∀ D u u' b, U.sb D u b → b < u.heap.size → u'.heap[b]? = u.heap[b]? → u.heap.size ≤ u'.heap.size → U.sb D u' b
 ne0 : ∀ u b, U.za u b → U.zb u b → False
 ne1 : ∀ D u b, U.za u b → U.sb D u b → False
 ne2 : ∀ D u b, U.sa D u b → U.zb u b → False
structure IU {δ : Type} (U : Upd δ) (W : World) (a : Act) (ops : Array Oper) (ds : List (Option Nat)) (k t0 tm d0 d1 d2 dA dB dC : Nat) (facts : Nat → Value → World → Prop) (L : Nat → Bool) (act : Act) (u : World) : Prop where
 size : act.tmps.size = a.tmps.size
 defers : act.defers = a.defers
 frame : ∀ t, (∀ j, L j = true → ds[j]? ≠ some (some t)) → act.eval (.tmp t) = a.eval (.tmp t)
 shut : ∀ (j : Nat) (o : Oper), ops[j]? = some o → L j = true → ∀ e ∈ o.after, Region.binds .any e = true → L e.on = true
 bl : Bl W u
 pre : L k = false → ∀ j t, j < k → L j = true → ds[j]? = some (some t) → facts j (act.eval (.tmp t)) u
 A : L (k + 5) = true → ∃ b, act.eval (.tmp dA) = .pointer (some ⟨b, 0, none⟩) ∧ W.heap.size ≤ b ∧ b < u.heap.size ∧ (L (k + 7) = false → U.za u b)
 B : L (k + 6) = true → ∃ b, act.eval (.tmp dB) = .pointer (some ⟨b, 0, none⟩) ∧ W.heap.size ≤ b ∧ b < u.heap.size ∧ (L (k + 8) = false → U.zb u b)
 post : L k = true → ∃ D, act.eval (.tmp t0) = .tuple #[U.v0 D, U.v1 D, U.v2 D] ∧ U.dat D u ∧ (L (k + 1) = true → act.eval (.tmp tm) = .tuple #[U.v0 D, U.v1 D, U.v2 D])
  ∧ (L (k + 2) = true → act.eval (.tmp d0) = U.v0 D) ∧ (L (k + 3) = true → act.eval (.tmp d1) = U.v1 D) ∧ (L (k + 4) = true → act.eval (.tmp d2) = U.v2 D) ∧ (L (k + 9) = true → act.eval (.tmp dC) = U.v2 D)
  ∧ (L (k + 5) = true → ∀ b, act.eval (.tmp dA) = .pointer (some ⟨b, 0, none⟩) → U.off D b ∧ (L (k + 7) = true → U.sa D u b))
  ∧ (L (k + 6) = true → ∀ b, act.eval (.tmp dB) = .pointer (some ⟨b, 0, none⟩) → U.off D b ∧ (L (k + 8) = true → U.sb D u b))
theorem put_other {ds : List (Option Nat)} (ho : onceB ds = true) {i j t t' : Nat} (hi : ds[i]? = some (some t)) (hj : ds[j]? = some (some t')) (hne : j ≠ i) (v : Value) (act : Act) : (act.put (some t) v).eval (.tmp t') = act.eval (.tmp t') :=
 eval_put_ne (fun e => once_ne ho j i t' t hj hi hne (Option.some.inj e).symm)
set_option maxHeartbeats 4000000 in
theorem region_u {δ : Type} {U : Upd δ} (ok : UpdOk U) {F : Fence} {n : Nat} {P : Program} {ops : Array Oper} {Q : Exit → Act → World → Prop} {a : Act} {W : World} {id : Nat} (hm : P.follows .mixedOrders = true) (ds : List (Option Nat)) (k : Nat) (hw : wellU ops ds k = true)
  (hsz0 : ds.all (fun d => match d with | some t => Nat.blt t a.tmps.size | none => true) = true) (t0 tm d0 d1 d2 dA dB dC : Nat) (hds : ds.drop k = [some t0, some tm, some d0, some d1, some d2, some dA, some dB, none, none, some dC])
  (facts : Nat → Value → World → Prop) (mono : ∀ j v u u', Bl u u' → facts j v u → facts j v u')
  (step : ∀ (j : Nat) (o : Oper) (t : Nat) (act : Act) (u : World), j < k → ops[j]? = some o → o.dst = some t → act.tmps.size = a.tmps.size → Bl W u → (∀ t, some t ∉ ds → act.eval (.tmp t) = a.eval (.tmp t)) → (∀ e ∈ o.after, Region.binds .any e = true → ∀ t, ds[e.on]? = some (some t) → facts e.on (act.eval (.tmp t)) u) →
   Oper.wpIn F n P o act u (fun act' u' => ∃ v, act' = act.put (some t) v ∧ facts j v u' ∧ Bl u u') Q)
  (call : ∀ (o : Oper) (act : Act) (u : World), ops[k]? = some o → act.tmps.size = a.tmps.size → Bl W u → (∀ t, some t ∉ ds → act.eval (.tmp t) = a.eval (.tmp t)) → (∀ e ∈ o.after, Region.binds .any e = true → ∀ t, ds[e.on]? = some (some t) → facts e.on (act.eval (.tmp t)) u) →
   Oper.wpIn F n P o act u (fun act' u' => ∃ D, act' = act.put (some t0) (.tuple #[U.v0 D, U.v1 D, U.v2 D]) ∧ U.dat D u' ∧ Bl u u' ∧ ∀ b, b < u.heap.size → W.heap.size ≤ b → U.off D b) Q)
  (mv : ∀ (o : Oper) (act : Act) (u : World) (x : Value), ops[k + 1]? = some o → act.eval (.tmp t0) = x → Oper.wpIn F n P o act u (fun act' u' => act' = act.put (some tm) x ∧ u' = u) Q)
  (x0 : ∀ (o : Oper) (act : Act) (u : World) (x y z : Value), ops[k + 2]? = some o → act.eval (.tmp tm) = .tuple #[x, y, z] → Oper.wpIn F n P o act u (fun act' u' => act' = act.put (some d0) x ∧ u' = u) Q)
  (x1 : ∀ (o : Oper) (act : Act) (u : World) (x y z : Value), ops[k + 3]? = some o → act.eval (.tmp tm) = .tuple #[x, y, z] → Oper.wpIn F n P o act u (fun act' u' => act' = act.put (some d1) y ∧ u' = u) Q)
  (x2 : ∀ (o : Oper) (act : Act) (u : World) (x y z : Value), ops[k + 4]? = some o → act.eval (.tmp tm) = .tuple #[x, y, z] → Oper.wpIn F n P o act u (fun act' u' => act' = act.put (some d2) z ∧ u' = u) Q)
  (la : ∀ (o : Oper) (act : Act) (u : World), ops[k + 5]? = some o → Oper.wpIn F n P o act u (fun act' u' => act' = act.put (some dA) (.pointer (some ⟨u.heap.size, 0, none⟩)) ∧ U.za u' u.heap.size ∧ Bl u u' ∧ u.heap.size < u'.heap.size) Q)
  (lb : ∀ (o : Oper) (act : Act) (u : World), ops[k + 6]? = some o → Oper.wpIn F n P o act u (fun act' u' => act' = act.put (some dB) (.pointer (some ⟨u.heap.size, 0, none⟩)) ∧ U.zb u' u.heap.size ∧ Bl u u' ∧ u.heap.size < u'.heap.size) Q)
  (sa : ∀ (o : Oper) (act : Act) (u : World) (D : δ) (b : Nat), ops[k + 7]? = some o → act.eval (.tmp dA) = .pointer (some ⟨b, 0, none⟩) → act.eval (.tmp d0) = U.v0 D → U.za u b → U.dat D u → U.off D b → Bl W u → W.heap.size ≤ b →
   Oper.wpIn F n P o act u (fun act' u' => act' = act ∧ U.sa D u' b ∧ U.dat D u' ∧ Bl W u' ∧ (∀ b', b' ≠ b → u'.heap[b']? = u.heap[b']?) ∧ u.heap.size ≤ u'.heap.size) Q)
  (sb : ∀ (o : Oper) (act : Act) (u : World) (D : δ) (b : Nat), ops[k + 8]? = some o → act.eval (.tmp dB) = .pointer (some ⟨b, 0, none⟩) → act.eval (.tmp d1) = U.v1 D → U.zb u b → U.dat D u → U.off D b → Bl W u → W.heap.size ≤ b →
   Oper.wpIn F n P o act u (fun act' u' => act' = act ∧ U.sb D u' b ∧ U.dat D u' ∧ Bl W u' ∧ (∀ b', b' ≠ b → u'.heap[b']? = u.heap[b']?) ∧ u.heap.size ≤ u'.heap.size) Q)
  (asg : ∀ (o : Oper) (act : Act) (u : World) (x : Value), ops[k + 9]? = some o → act.eval (.tmp d2) = x → Oper.wpIn F n P o act u (fun act' u' => act' = act.put (some dC) x ∧ u' = u) Q)
  (fin : ∀ (vs : Nat → Value) (u : World) (D : δ) (b1 b2 : Nat), Bl W u → vs (k + 9) = U.v2 D → vs (k + 5) = .pointer (some ⟨b1, 0, none⟩) → vs (k + 6) = .pointer (some ⟨b2, 0, none⟩) → W.heap.size ≤ b1 → W.heap.size ≤ b2 → U.sa D u b1 → U.sb D u b2 → U.dat D u → Q .normal (putL ds vs 0 a) u) :
  (Code.region id ops true).wpIn F n P Q a W := by
 simp only [wellU, Bool.and_eq_true] at hw
 obtain ⟨⟨⟨⟨⟨⟨⟨⟨⟨⟨⟨⟨⟨⟨⟨⟨hlow, honce⟩, hlen⟩, hos⟩, hall'⟩, hused⟩, hsome⟩, e10⟩, e21⟩, e31⟩, e41⟩, e75⟩, e72⟩, e86⟩, e83⟩, e87⟩, e94⟩ := hw
 have hos' : ops.size = k + 10 := by simpa using hos
 have hlen' : ds.length = ops.size := by simpa using hlen
 have key : ∀ (j : Nat) (o : Oper), ops[j]? = some o → o.guard = none ∧ ds[j]? = some o.dst := fun j o ho => by
  have := List.all_eq_true.1 hall' j (by simpa using (Array.getElem?_eq_some_iff.1 ho).1)
  rw [ho] at this
  simpa using this
 have hsz : ∀ t, some t ∈ ds → t < a.tmps.size := fun t ht => by have := List.all_eq_true.1 hsz0 _ ht; rw [Nat.blt_eq] at this; exact this
 have dk : ∀ i, ds[k + i]? = ([some t0, some tm, some d0, some d1, some d2, some dA, some dB, none, none, some dC] : List (Option Nat))[i]? := fun i => by rw [← hds, List.getElem?_drop]
 have k0 : ds[k]? = some (some t0) := dk 0
 have k1 : ds[k + 1]? = some (some tm) := dk 1
 have k2 : ds[k + 2]? = some (some d0) := dk 2
 have k3 : ds[k + 3]? = some (some d1) := dk 3
 have k4 : ds[k + 4]? = some (some d2) := dk 4
 have k5 : ds[k + 5]? = some (some dA) := dk 5
 have k6 : ds[k + 6]? = some (some dB) := dk 6
 have k7 : ds[k + 7]? = some none := dk 7
 have k8 : ds[k + 8]? = some none := dk 8
 have k9 : ds[k + 9]? = some (some dC) := dk 9
 refine region_facts2 hm (lowB2_low hlow) (IU U W a ops ds k t0 tm d0 d1 d2 dA dB dC facts) ?_ ?_ ?_
 ·exact ⟨rfl, rfl, fun _ _ => rfl, (by intro _ _ _ h; cases h), (Bl.refl _).drew, (by intro _ _ _ _ h; cases h), (by intro h; cases h), (by intro h; cases h), (by intro h; cases h)⟩
 ·intro L act u i o hI ho hLi hall
  have hil : i < k + 10 := by have := (Array.getElem?_eq_some_iff.1 ho).1; omega
  refine step_wp ho (key i o ho).1 ?_
  have hdi := (key i o ho).2
  have hfr : ∀ t, some t ∉ ds → act.eval (.tmp t) = a.eval (.tmp t) := fun t ht => hI.frame t (fun j _ e => ht (List.mem_of_getElem? e))
  have shut' : ∀ (j : Nat) (o' : Oper), ops[j]? = some o' → (L j || (j == i)) = true → ∀ e ∈ o'.after, Region.binds .any e = true → (L e.on || (e.on == i)) = true := fun j o' ho' hj e he hb => by
   rw [Bool.or_eq_true] at hj
   rcases hj with hj | hj
   ·rw [hI.shut j o' ho' hj e he hb]; rfl
   ·obtain rfl : j = i := by simpa using hj
    rw [ho] at ho'
    cases ho'
    rw [hall e he hb]; rfl
  have frame' : ∀ (t : Nat) v, o.dst = some t → ∀ t', (∀ j, (L j || (j == i)) = true → ds[j]? ≠ some (some t')) → (act.put (some t) v).eval (.tmp t') = a.eval (.tmp t') := fun t v hd t' h => by
   rw [eval_put_ne (fun e => h i (by simp) (by rw [hdi, hd, e]))]
   exact hI.frame t' (fun j hj => h j (by rw [hj]; rfl))
  have frame0 : ∀ t', (∀ j, (L j || (j == i)) = true → ds[j]? ≠ some (some t')) → act.eval (.tmp t') = a.eval (.tmp t') := fun t' h => hI.frame t' (fun j hj => h j (by rw [hj]; rfl))
  have waits : ∀ j, edgeB ops i j = true → L j = true := fun j h => by
   obtain ⟨o', e, ho', he, hej, hb⟩ := edge_of h
   rw [ho] at ho'
   cases ho'
   rw [← hej]
   exact hall e he hb
  have done : ∀ x y, edgeB ops x y = true → L x = true → L y = true := fun x y h hx => by
   obtain ⟨o', e, ho', he, hej, hb⟩ := edge_of h
   rw [← hej]
   exact hI.shut x o' ho' hx e he hb
  have ohter : ∀ (t : Nat) (v : Value) (j t' : Nat), ds[i]? = some (some t) → ds[j]? = some (some t') → j ≠ i → (act.put (some t) v).eval (.tmp t') = act.eval (.tmp t') := fun t v j t' h1 h2 h3 => put_other honce h1 h2 h3 v act
  have same : ∀ (t : Nat) (v : Value), ds[i]? = some (some t) → (act.put (some t) v).eval (.tmp t) = v := fun t v h => eval_put_same (by rw [hI.size]; exact hsz t (List.mem_of_getElem? h))
  have lt' : ∀ x, x ≠ i → (L x || (x == i)) = L x := fun x hx => by rw [show (x == i) = false by simpa using hx, Bool.or_false]
  have ii : (L i || (i == i)) = true := by simp
  rcases Nat.lt_or_ge i k with hik | hik
  ·-- before the call
   have hk0 : L k = false := by
    cases hh : L k with
    | false => rfl
    | true =>
     have clos : ∀ m j, k - j ≤ m → j < k → L j = true := by
      intro m
      induction m with
      | zero => intro j h1 h2; omega
      | succ m ih =>
       intro j h1 h2
       have h3 := List.all_eq_true.1 hused j (by simpa using h2)
       simp only [List.any_eq_true, Bool.and_eq_true, decide_eq_true_eq, List.mem_range] at h3
       obtain ⟨x, hx, hjx, he⟩ := h3
       refine done x j he ?_
       by_cases e : x = k
       ·rw [e]; exact hh
       ·exact ih x (by omega) (by omega)
     rw [clos (k - i) i (Nat.le_refl _) hik] at hLi
     cases hLi
   have hd : ∃ t, o.dst = some t := by
    have h3 := List.all_eq_true.1 hsome i (by simpa using hik)
    rw [hdi] at h3
    cases hd : o.dst with
    | some t => exact ⟨t, rfl⟩
    | none => rw [hd] at h3; cases h3
   obtain ⟨t, hd⟩ := hd
   have hdt : ds[i]? = some (some t) := by rw [hdi, hd]
   refine Oper.wpIn_mono ?_ (step i o t act u hik ho hd hI.size hI.bl hfr (fun e he hb t' ht' => hI.pre hk0 e.on t' (by have := lowB2_low hlow i o ho e he hb; omega) (hall e he hb) ht'))
   rintro act' u' ⟨v, rfl, hf, hb⟩
   refine ⟨by rw [size_put]; exact hI.size, by rw [defers_put]; exact hI.defers, frame' t v hd, shut', hI.bl.trans hb, fun _ j t' hj hL hdj => ?_, fun h => ?_, fun h => ?_, fun h => ?_⟩
   ·by_cases e : j = i
    ·subst e
     rw [hdt] at hdj
     cases hdj
     rw [same t v hdt]
     exact hf
    ·rw [ohter t v j t' hdt hdj e]
     rw [lt' j e] at hL
     exact mono j _ u u' hb (hI.pre hk0 j t' hj hL hdj)
   ·rw [lt' _ (by omega)] at h
    obtain ⟨b, h1, h2, h3, h4⟩ := hI.A h
    refine ⟨b, by rw [ohter t v _ _ hdt k5 (by omega)]; exact h1, h2, Nat.lt_of_lt_of_le h3 hb.size, fun h5 => ?_⟩
    rw [lt' _ (by omega)] at h5
    exact ok.za_heap u u' b (h4 h5) h3 (Below.block hb b h3) hb.size
   ·rw [lt' _ (by omega)] at h
    obtain ⟨b, h1, h2, h3, h4⟩ := hI.B h
    refine ⟨b, by rw [ohter t v _ _ hdt k6 (by omega)]; exact h1, h2, Nat.lt_of_lt_of_le h3 hb.size, fun h5 => ?_⟩
    rw [lt' _ (by omega)] at h5
    exact ok.zb_heap u u' b (h4 h5) h3 (Below.block hb b h3) hb.size
   ·rw [lt' _ (by omega), hk0] at h
    cases h
  ·skip
   have hcase : i = k ∨ i = k + 1 ∨ i = k + 2 ∨ i = k + 3 ∨ i = k + 4 ∨ i = k + 5 ∨ i = k + 6 ∨ i = k + 7 ∨ i = k + 8 ∨ i = k + 9 := by omega
   have fls : ∀ x, (L x = true → False) → L x = false := fun x h => by cases hh : L x with | false => rfl | true => exact (h hh).elim
   have no : ∀ x, L i = true → x := fun x h => by rw [h] at hLi; cases hLi
   have to0 : L (k + 1) = true → L k = true := done _ _ e10
   have to21 : L (k + 2) = true → L k = true := fun h => to0 (done _ _ e21 h)
   have to31 : L (k + 3) = true → L k = true := fun h => to0 (done _ _ e31 h)
   have to41 : L (k + 4) = true → L k = true := fun h => to0 (done _ _ e41 h)
   rcases hcase with rfl | rfl | rfl | rfl | rfl | rfl | rfl | rfl | rfl | rfl
   ·-- the call
    have n1 : L (i + 1) = false := fls _ fun h => no _ (to0 h)
    have n2 : L (i + 2) = false := fls _ fun h => no _ (to21 h)
    have n3 : L (i + 3) = false := fls _ fun h => no _ (to31 h)
    have n4 : L (i + 4) = false := fls _ fun h => no _ (to41 h)
    have n7 : L (i + 7) = false := fls _ fun h => no _ (to21 (done _ _ e72 h))
    have n8 : L (i + 8) = false := fls _ fun h => no _ (to31 (done _ _ e83 h))
    have n9 : L (i + 9) = false := fls _ fun h => no _ (to41 (done _ _ e94 h))
    have hd : o.dst = some t0 := by rw [hdi] at k0; exact Option.some.inj k0
    refine Oper.wpIn_mono ?_ (call o act u ho hI.size hI.bl hfr (fun e he hb t' ht' => hI.pre hLi e.on t' (lowB2_low hlow i o ho e he hb) (hall e he hb) ht'))
    rintro act' u' ⟨D, rfl, hdat, hb, hoff⟩
    refine ⟨by rw [size_put]; exact hI.size, by rw [defers_put]; exact hI.defers, frame' t0 _ hd, shut', hI.bl.trans hb, fun h => (by rw [ii] at h; cases h), fun h => ?_, fun h => ?_, fun _ => ⟨D, same _ _ k0, hdat, fun h => ?_, fun h => ?_, fun h => ?_, fun h => ?_, fun h => ?_, fun h b hb1 => ?_, fun h b hb1 => ?_⟩⟩
    ·rw [lt' _ (by omega)] at h
     obtain ⟨b, h1, h2, h3, h4⟩ := hI.A h
     exact ⟨b, by rw [ohter _ _ _ _ k0 k5 (by omega)]; exact h1, h2, Nat.lt_of_lt_of_le h3 hb.size, fun _ => ok.za_heap u u' b (h4 n7) h3 (Below.block hb b h3) hb.size⟩
    ·rw [lt' _ (by omega)] at h
     obtain ⟨b, h1, h2, h3, h4⟩ := hI.B h
     exact ⟨b, by rw [ohter _ _ _ _ k0 k6 (by omega)]; exact h1, h2, Nat.lt_of_lt_of_le h3 hb.size, fun _ => ok.zb_heap u u' b (h4 n8) h3 (Below.block hb b h3) hb.size⟩
    ·rw [lt' _ (by omega), n1] at h; cases h
    ·rw [lt' _ (by omega), n2] at h; cases h
    ·rw [lt' _ (by omega), n3] at h; cases h
    ·rw [lt' _ (by omega), n4] at h; cases h
    ·rw [lt' _ (by omega), n9] at h; cases h
    ·rw [lt' _ (by omega)] at h
     obtain ⟨b', h1, h2, h3, h4⟩ := hI.A h
     rw [ohter _ _ _ _ k0 k5 (by omega), h1] at hb1
     cases hb1
     exact ⟨hoff b h3 h2, fun h7 => by rw [lt' _ (by omega), n7] at h7; cases h7⟩
    ·rw [lt' _ (by omega)] at h
     obtain ⟨b', h1, h2, h3, h4⟩ := hI.B h
     rw [ohter _ _ _ _ k0 k6 (by omega), h1] at hb1
     cases hb1
     exact ⟨hoff b h3 h2, fun h7 => by rw [lt' _ (by omega), n8] at h7; cases h7⟩
   ·have hLk : L k = true := waits _ e10
    obtain ⟨D, p0, pd, p1, p2, p3, p4, p9, pA, pB⟩ := hI.post hLk
    have hx := p0
    have hd : o.dst = some tm := by rw [hdi] at k1; exact Option.some.inj k1
    refine Oper.wpIn_mono ?_ (mv o act u _ ho hx)
    rintro act' u' ⟨rfl, rfl⟩
    refine ⟨by rw [size_put]; exact hI.size, by rw [defers_put]; exact hI.defers, frame' tm _ hd, shut', hI.bl, fun h => (by rw [lt' _ (by omega), hLk] at h; cases h), fun h => ?_, fun h => ?_, fun _ => ⟨D, by rw [ohter _ _ _ _ k1 k0 (by omega)]; exact p0, pd, fun h => ?_, fun h => ?_, fun h => ?_, fun h => ?_, fun h => ?_, fun h b hb1 => ?_, fun h b hb1 => ?_⟩⟩
    ·rw [lt' _ (by omega)] at h
     obtain ⟨b, h1, h2, h3, h4⟩ := hI.A h
     exact ⟨b, by rw [ohter _ _ _ _ k1 k5 (by omega)]; exact h1, h2, h3, fun h5 => h4 (by rw [lt' _ (by omega)] at h5; exact h5)⟩
    ·rw [lt' _ (by omega)] at h
     obtain ⟨b, h1, h2, h3, h4⟩ := hI.B h
     exact ⟨b, by rw [ohter _ _ _ _ k1 k6 (by omega)]; exact h1, h2, h3, fun h5 => h4 (by rw [lt' _ (by omega)] at h5; exact h5)⟩
    ·exact same _ _ k1
    ·rw [lt' _ (by omega)] at h
     rw [ohter _ _ _ _ k1 k2 (by omega)]
     exact p2 h
    ·rw [lt' _ (by omega)] at h
     rw [ohter _ _ _ _ k1 k3 (by omega)]
     exact p3 h
    ·rw [lt' _ (by omega)] at h
     rw [ohter _ _ _ _ k1 k4 (by omega)]
     exact p4 h
    ·rw [lt' _ (by omega)] at h
     rw [ohter _ _ _ _ k1 k9 (by omega)]
     exact p9 h
    ·rw [lt' _ (by omega)] at h
     rw [ohter _ _ _ _ k1 k5 (by omega)] at hb1
     obtain ⟨q1, q2⟩ := pA h b hb1
     exact ⟨q1, fun h7 => q2 (by rw [lt' _ (by omega)] at h7; exact h7)⟩
    ·rw [lt' _ (by omega)] at h
     rw [ohter _ _ _ _ k1 k6 (by omega)] at hb1
     obtain ⟨q1, q2⟩ := pB h b hb1
     exact ⟨q1, fun h7 => q2 (by rw [lt' _ (by omega)] at h7; exact h7)⟩
   ·have hLk : L k = true := to0 (waits _ e21)
    obtain ⟨D, p0, pd, p1, p2, p3, p4, p9, pA, pB⟩ := hI.post hLk
    have hx := p1 (waits _ e21)
    have hd : o.dst = some d0 := by rw [hdi] at k2; exact Option.some.inj k2
    refine Oper.wpIn_mono ?_ (x0 o act u _ _ _ ho hx)
    rintro act' u' ⟨rfl, rfl⟩
    refine ⟨by rw [size_put]; exact hI.size, by rw [defers_put]; exact hI.defers, frame' d0 _ hd, shut', hI.bl, fun h => (by rw [lt' _ (by omega), hLk] at h; cases h), fun h => ?_, fun h => ?_, fun _ => ⟨D, by rw [ohter _ _ _ _ k2 k0 (by omega)]; exact p0, pd, fun h => ?_, fun h => ?_, fun h => ?_, fun h => ?_, fun h => ?_, fun h b hb1 => ?_, fun h b hb1 => ?_⟩⟩
    ·rw [lt' _ (by omega)] at h
     obtain ⟨b, h1, h2, h3, h4⟩ := hI.A h
     exact ⟨b, by rw [ohter _ _ _ _ k2 k5 (by omega)]; exact h1, h2, h3, fun h5 => h4 (by rw [lt' _ (by omega)] at h5; exact h5)⟩
    ·rw [lt' _ (by omega)] at h
     obtain ⟨b, h1, h2, h3, h4⟩ := hI.B h
     exact ⟨b, by rw [ohter _ _ _ _ k2 k6 (by omega)]; exact h1, h2, h3, fun h5 => h4 (by rw [lt' _ (by omega)] at h5; exact h5)⟩
    ·rw [lt' _ (by omega)] at h
     rw [ohter _ _ _ _ k2 k1 (by omega)]
     exact p1 h
    ·exact same _ _ k2
    ·rw [lt' _ (by omega)] at h
     rw [ohter _ _ _ _ k2 k3 (by omega)]
     exact p3 h
    ·rw [lt' _ (by omega)] at h
     rw [ohter _ _ _ _ k2 k4 (by omega)]
     exact p4 h
    ·rw [lt' _ (by omega)] at h
     rw [ohter _ _ _ _ k2 k9 (by omega)]
     exact p9 h
    ·rw [lt' _ (by omega)] at h
     rw [ohter _ _ _ _ k2 k5 (by omega)] at hb1
     obtain ⟨q1, q2⟩ := pA h b hb1
     exact ⟨q1, fun h7 => q2 (by rw [lt' _ (by omega)] at h7; exact h7)⟩
    ·rw [lt' _ (by omega)] at h
     rw [ohter _ _ _ _ k2 k6 (by omega)] at hb1
     obtain ⟨q1, q2⟩ := pB h b hb1
     exact ⟨q1, fun h7 => q2 (by rw [lt' _ (by omega)] at h7; exact h7)⟩
   ·have hLk : L k = true := to0 (waits _ e31)
    obtain ⟨D, p0, pd, p1, p2, p3, p4, p9, pA, pB⟩ := hI.post hLk
    have hx := p1 (waits _ e31)
    have hd : o.dst = some d1 := by rw [hdi] at k3; exact Option.some.inj k3
    refine Oper.wpIn_mono ?_ (x1 o act u _ _ _ ho hx)
    rintro act' u' ⟨rfl, rfl⟩
    refine ⟨by rw [size_put]; exact hI.size, by rw [defers_put]; exact hI.defers, frame' d1 _ hd, shut', hI.bl, fun h => (by rw [lt' _ (by omega), hLk] at h; cases h), fun h => ?_, fun h => ?_, fun _ => ⟨D, by rw [ohter _ _ _ _ k3 k0 (by omega)]; exact p0, pd, fun h => ?_, fun h => ?_, fun h => ?_, fun h => ?_, fun h => ?_, fun h b hb1 => ?_, fun h b hb1 => ?_⟩⟩
    ·rw [lt' _ (by omega)] at h
     obtain ⟨b, h1, h2, h3, h4⟩ := hI.A h
     exact ⟨b, by rw [ohter _ _ _ _ k3 k5 (by omega)]; exact h1, h2, h3, fun h5 => h4 (by rw [lt' _ (by omega)] at h5; exact h5)⟩
    ·rw [lt' _ (by omega)] at h
     obtain ⟨b, h1, h2, h3, h4⟩ := hI.B h
     exact ⟨b, by rw [ohter _ _ _ _ k3 k6 (by omega)]; exact h1, h2, h3, fun h5 => h4 (by rw [lt' _ (by omega)] at h5; exact h5)⟩
    ·rw [lt' _ (by omega)] at h
     rw [ohter _ _ _ _ k3 k1 (by omega)]
     exact p1 h
    ·rw [lt' _ (by omega)] at h
     rw [ohter _ _ _ _ k3 k2 (by omega)]
     exact p2 h
    ·exact same _ _ k3
    ·rw [lt' _ (by omega)] at h
     rw [ohter _ _ _ _ k3 k4 (by omega)]
     exact p4 h
    ·rw [lt' _ (by omega)] at h
     rw [ohter _ _ _ _ k3 k9 (by omega)]
     exact p9 h
    ·rw [lt' _ (by omega)] at h
     rw [ohter _ _ _ _ k3 k5 (by omega)] at hb1
     obtain ⟨q1, q2⟩ := pA h b hb1
     exact ⟨q1, fun h7 => q2 (by rw [lt' _ (by omega)] at h7; exact h7)⟩
    ·rw [lt' _ (by omega)] at h
     rw [ohter _ _ _ _ k3 k6 (by omega)] at hb1
     obtain ⟨q1, q2⟩ := pB h b hb1
     exact ⟨q1, fun h7 => q2 (by rw [lt' _ (by omega)] at h7; exact h7)⟩
   ·have hLk : L k = true := to0 (waits _ e41)
    obtain ⟨D, p0, pd, p1, p2, p3, p4, p9, pA, pB⟩ := hI.post hLk
    have hx := p1 (waits _ e41)
    have hd : o.dst = some d2 := by rw [hdi] at k4; exact Option.some.inj k4
    refine Oper.wpIn_mono ?_ (x2 o act u _ _ _ ho hx)
    rintro act' u' ⟨rfl, rfl⟩
    refine ⟨by rw [size_put]; exact hI.size, by rw [defers_put]; exact hI.defers, frame' d2 _ hd, shut', hI.bl, fun h => (by rw [lt' _ (by omega), hLk] at h; cases h), fun h => ?_, fun h => ?_, fun _ => ⟨D, by rw [ohter _ _ _ _ k4 k0 (by omega)]; exact p0, pd, fun h => ?_, fun h => ?_, fun h => ?_, fun h => ?_, fun h => ?_, fun h b hb1 => ?_, fun h b hb1 => ?_⟩⟩
    ·rw [lt' _ (by omega)] at h
     obtain ⟨b, h1, h2, h3, h4⟩ := hI.A h
     exact ⟨b, by rw [ohter _ _ _ _ k4 k5 (by omega)]; exact h1, h2, h3, fun h5 => h4 (by rw [lt' _ (by omega)] at h5; exact h5)⟩
    ·rw [lt' _ (by omega)] at h
     obtain ⟨b, h1, h2, h3, h4⟩ := hI.B h
     exact ⟨b, by rw [ohter _ _ _ _ k4 k6 (by omega)]; exact h1, h2, h3, fun h5 => h4 (by rw [lt' _ (by omega)] at h5; exact h5)⟩
    ·rw [lt' _ (by omega)] at h
     rw [ohter _ _ _ _ k4 k1 (by omega)]
     exact p1 h
    ·rw [lt' _ (by omega)] at h
     rw [ohter _ _ _ _ k4 k2 (by omega)]
     exact p2 h
    ·rw [lt' _ (by omega)] at h
     rw [ohter _ _ _ _ k4 k3 (by omega)]
     exact p3 h
    ·exact same _ _ k4
    ·rw [lt' _ (by omega)] at h
     rw [ohter _ _ _ _ k4 k9 (by omega)]
     exact p9 h
    ·rw [lt' _ (by omega)] at h
     rw [ohter _ _ _ _ k4 k5 (by omega)] at hb1
     obtain ⟨q1, q2⟩ := pA h b hb1
     exact ⟨q1, fun h7 => q2 (by rw [lt' _ (by omega)] at h7; exact h7)⟩
    ·rw [lt' _ (by omega)] at h
     rw [ohter _ _ _ _ k4 k6 (by omega)] at hb1
     obtain ⟨q1, q2⟩ := pB h b hb1
     exact ⟨q1, fun h7 => q2 (by rw [lt' _ (by omega)] at h7; exact h7)⟩
   ·have nS : L (k + 7) = false := fls _ fun h => no _ (done _ _ e75 h)
    have hd : o.dst = some dA := by rw [hdi] at k5; exact Option.some.inj k5
    refine Oper.wpIn_mono ?_ (la o act u ho)
    rintro act' u' ⟨rfl, hz, hb, hlt⟩
    refine ⟨by rw [size_put]; exact hI.size, by rw [defers_put]; exact hI.defers, frame' dA _ hd, shut', hI.bl.trans hb, fun h j t' hj hL hdj => ?_, fun _ => ⟨u.heap.size, same _ _ k5, hI.bl.size, hlt, fun _ => hz⟩, fun h => ?_, fun h => ?_⟩
    ·rw [lt' _ (by omega)] at h
     rw [lt' _ (by omega)] at hL
     rw [ohter _ _ _ _ k5 hdj (by omega)]
     exact mono j _ u u' hb (hI.pre h j t' hj hL hdj)
    ·rw [lt' _ (by omega)] at h
     obtain ⟨b, h1, h2, h3, h4⟩ := hI.B h
     refine ⟨b, by rw [ohter _ _ _ _ k5 k6 (by omega)]; exact h1, h2, Nat.lt_of_lt_of_le h3 hb.size, fun h5 => ?_⟩
     rw [lt' _ (by omega)] at h5
     exact ok.zb_heap u u' b (h4 h5) h3 (Below.block hb b h3) hb.size
    ·rw [lt' _ (by omega)] at h
     obtain ⟨D, p0, pd, p1, p2, p3, p4, p9, pA, pB⟩ := hI.post h
     refine ⟨D, by rw [ohter _ _ _ _ k5 k0 (by omega)]; exact p0, ok.dat_bl D u u' pd hb, fun h => ?_, fun h => ?_, fun h => ?_, fun h => ?_, fun h => ?_, fun h b hb1 => ?_, fun h b hb1 => ?_⟩
     ·rw [lt' _ (by omega)] at h; rw [ohter _ _ _ _ k5 k1 (by omega)]; exact p1 h
     ·rw [lt' _ (by omega)] at h; rw [ohter _ _ _ _ k5 k2 (by omega)]; exact p2 h
     ·rw [lt' _ (by omega)] at h; rw [ohter _ _ _ _ k5 k3 (by omega)]; exact p3 h
     ·rw [lt' _ (by omega)] at h; rw [ohter _ _ _ _ k5 k4 (by omega)]; exact p4 h
     ·rw [lt' _ (by omega)] at h; rw [ohter _ _ _ _ k5 k9 (by omega)]; exact p9 h
     ·rw [same _ _ k5] at hb1
      cases hb1
      exact ⟨ok.dat_off D u _ pd (Nat.le_refl _), fun h7 => by rw [lt' _ (by omega), nS] at h7; cases h7⟩
     ·rw [lt' _ (by omega)] at h
      rw [ohter _ _ _ _ k5 k6 (by omega)] at hb1
      obtain ⟨q1, q2⟩ := pB h b hb1
      obtain ⟨b', h1, h2, h3, h4⟩ := hI.B h
      rw [h1] at hb1
      cases hb1
      exact ⟨q1, fun h7 => ok.sb_heap D u u' b (q2 (by rw [lt' _ (by omega)] at h7; exact h7)) h3 (Below.block hb b h3) hb.size⟩
   ·have nS : L (k + 8) = false := fls _ fun h => no _ (done _ _ e86 h)
    have hd : o.dst = some dB := by rw [hdi] at k6; exact Option.some.inj k6
    refine Oper.wpIn_mono ?_ (lb o act u ho)
    rintro act' u' ⟨rfl, hz, hb, hlt⟩
    refine ⟨by rw [size_put]; exact hI.size, by rw [defers_put]; exact hI.defers, frame' dB _ hd, shut', hI.bl.trans hb, fun h j t' hj hL hdj => ?_, fun h => ?_, fun _ => ⟨u.heap.size, same _ _ k6, hI.bl.size, hlt, fun _ => hz⟩, fun h => ?_⟩
    ·rw [lt' _ (by omega)] at h
     rw [lt' _ (by omega)] at hL
     rw [ohter _ _ _ _ k6 hdj (by omega)]
     exact mono j _ u u' hb (hI.pre h j t' hj hL hdj)
    ·rw [lt' _ (by omega)] at h
     obtain ⟨b, h1, h2, h3, h4⟩ := hI.A h
     refine ⟨b, by rw [ohter _ _ _ _ k6 k5 (by omega)]; exact h1, h2, Nat.lt_of_lt_of_le h3 hb.size, fun h5 => ?_⟩
     rw [lt' _ (by omega)] at h5
     exact ok.za_heap u u' b (h4 h5) h3 (Below.block hb b h3) hb.size
    ·rw [lt' _ (by omega)] at h
     obtain ⟨D, p0, pd, p1, p2, p3, p4, p9, pA, pB⟩ := hI.post h
     refine ⟨D, by rw [ohter _ _ _ _ k6 k0 (by omega)]; exact p0, ok.dat_bl D u u' pd hb, fun h => ?_, fun h => ?_, fun h => ?_, fun h => ?_, fun h => ?_, fun h b hb1 => ?_, fun h b hb1 => ?_⟩
     ·rw [lt' _ (by omega)] at h; rw [ohter _ _ _ _ k6 k1 (by omega)]; exact p1 h
     ·rw [lt' _ (by omega)] at h; rw [ohter _ _ _ _ k6 k2 (by omega)]; exact p2 h
     ·rw [lt' _ (by omega)] at h; rw [ohter _ _ _ _ k6 k3 (by omega)]; exact p3 h
     ·rw [lt' _ (by omega)] at h; rw [ohter _ _ _ _ k6 k4 (by omega)]; exact p4 h
     ·rw [lt' _ (by omega)] at h; rw [ohter _ _ _ _ k6 k9 (by omega)]; exact p9 h
     ·rw [lt' _ (by omega)] at h
      rw [ohter _ _ _ _ k6 k5 (by omega)] at hb1
      obtain ⟨q1, q2⟩ := pA h b hb1
      obtain ⟨b', h1, h2, h3, h4⟩ := hI.A h
      rw [h1] at hb1
      cases hb1
      exact ⟨q1, fun h7 => ok.sa_heap D u u' b (q2 (by rw [lt' _ (by omega)] at h7; exact h7)) h3 (Below.block hb b h3) hb.size⟩
     ·rw [same _ _ k6] at hb1
      cases hb1
      exact ⟨ok.dat_off D u _ pd (Nat.le_refl _), fun h7 => by rw [lt' _ (by omega), nS] at h7; cases h7⟩
   ·-- the first store
    have hLk : L k = true := to21 (waits _ e72)
    have h5 : L (k + 5) = true := waits _ e75
    have n8 : L (k + 8) = false := fls _ fun h => no _ (done _ _ e87 h)
    obtain ⟨D, p0, pd, p1, p2, p3, p4, p9, pA, pB⟩ := hI.post hLk
    obtain ⟨b, h1, h2, h3, h4⟩ := hI.A h5
    have hoff := (pA h5 b h1).1
    have hz := h4 hLi
    refine Oper.wpIn_mono ?_ (sa o act u D b ho h1 (p2 (waits _ e72)) hz pd hoff hI.bl h2)
    rintro act' u' ⟨rfl, hs, hdat, hbl, hne, hsz'⟩
    refine ⟨hI.size, hI.defers, frame0, shut', hbl, fun h => (by rw [lt' _ (by omega), hLk] at h; cases h), fun _ => ⟨b, h1, h2, Nat.lt_of_lt_of_le h3 hsz', fun h => by rw [ii] at h; cases h⟩, fun h => ?_, fun _ => ⟨D, p0, hdat, fun h => p1 (by rw [lt' _ (by omega)] at h; exact h), fun h => p2 (by rw [lt' _ (by omega)] at h; exact h), fun h => p3 (by rw [lt' _ (by omega)] at h; exact h), fun h => p4 (by rw [lt' _ (by omega)] at h; exact h), fun h => p9 (by rw [lt' _ (by omega)] at h; exact h), fun h b' hb' => ?_, fun h b' hb' => ?_⟩⟩
    ·rw [lt' _ (by omega)] at h
     obtain ⟨b2, g1, g2, g3, g4⟩ := hI.B h
     exact ⟨b2, g1, g2, Nat.lt_of_lt_of_le g3 hsz', fun _ => ok.zb_heap u u' b2 (g4 n8) g3 (hne b2 (fun e => ok.ne0 u b hz (by rw [← e]; exact g4 n8))) hsz'⟩
    ·rw [h1] at hb'
     cases hb'
     exact ⟨hoff, fun _ => hs⟩
    ·rw [lt' _ (by omega)] at h
     exact ⟨(pB h b' hb').1, fun h8 => by rw [lt' _ (by omega), n8] at h8; cases h8⟩
   ·-- the second store
    have hLk : L k = true := to31 (waits _ e83)
    have h6 : L (k + 6) = true := waits _ e86
    have h7 : L (k + 7) = true := waits _ e87
    have h5 : L (k + 5) = true := done _ _ e75 h7
    obtain ⟨D, p0, pd, p1, p2, p3, p4, p9, pA, pB⟩ := hI.post hLk
    obtain ⟨b, h1, h2, h3, h4⟩ := hI.B h6
    obtain ⟨b1, g1, g2, g3, g4⟩ := hI.A h5
    have hoff := (pB h6 b h1).1
    have hz := h4 hLi
    obtain ⟨hoff1, hsa⟩ := pA h5 b1 g1
    refine Oper.wpIn_mono ?_ (sb o act u D b ho h1 (p3 (waits _ e83)) hz pd hoff hI.bl h2)
    rintro act' u' ⟨rfl, hs, hdat, hbl, hne, hsz'⟩
    have hb1 : b1 ≠ b := fun e => ok.ne2 D u b (by rw [← e]; exact hsa h7) hz
    refine ⟨hI.size, hI.defers, frame0, shut', hbl, fun h => (by rw [lt' _ (by omega), hLk] at h; cases h), fun _ => ⟨b1, g1, g2, Nat.lt_of_lt_of_le g3 hsz', fun h => by rw [lt' _ (by omega), h7] at h; cases h⟩, fun _ => ⟨b, h1, h2, Nat.lt_of_lt_of_le h3 hsz', fun h => by rw [ii] at h; cases h⟩, fun _ => ⟨D, p0, hdat, fun h => p1 (by rw [lt' _ (by omega)] at h; exact h), fun h => p2 (by rw [lt' _ (by omega)] at h; exact h), fun h => p3 (by rw [lt' _ (by omega)] at h; exact h), fun h => p4 (by rw [lt' _ (by omega)] at h; exact h), fun h => p9 (by rw [lt' _ (by omega)] at h; exact h), fun h b' hb' => ?_, fun h b' hb' => ?_⟩⟩
    ·rw [g1] at hb'
     cases hb'
     exact ⟨hoff1, fun _ => ok.sa_heap D u u' b1 (hsa h7) g3 (hne b1 hb1) hsz'⟩
    ·rw [h1] at hb'
     cases hb'
     exact ⟨hoff, fun _ => hs⟩
   ·have hLk : L k = true := to41 (waits _ e94)
    obtain ⟨D, p0, pd, p1, p2, p3, p4, p9, pA, pB⟩ := hI.post hLk
    have hx := p4 (waits _ e94)
    have hd : o.dst = some dC := by rw [hdi] at k9; exact Option.some.inj k9
    refine Oper.wpIn_mono ?_ (asg o act u _ ho hx)
    rintro act' u' ⟨rfl, rfl⟩
    refine ⟨by rw [size_put]; exact hI.size, by rw [defers_put]; exact hI.defers, frame' dC _ hd, shut', hI.bl, fun h => (by rw [lt' _ (by omega), hLk] at h; cases h), fun h => ?_, fun h => ?_, fun _ => ⟨D, by rw [ohter _ _ _ _ k9 k0 (by omega)]; exact p0, pd, fun h => ?_, fun h => ?_, fun h => ?_, fun h => ?_, fun h => ?_, fun h b hb1 => ?_, fun h b hb1 => ?_⟩⟩
    ·rw [lt' _ (by omega)] at h
     obtain ⟨b, h1, h2, h3, h4⟩ := hI.A h
     exact ⟨b, by rw [ohter _ _ _ _ k9 k5 (by omega)]; exact h1, h2, h3, fun h5 => h4 (by rw [lt' _ (by omega)] at h5; exact h5)⟩
    ·rw [lt' _ (by omega)] at h
     obtain ⟨b, h1, h2, h3, h4⟩ := hI.B h
     exact ⟨b, by rw [ohter _ _ _ _ k9 k6 (by omega)]; exact h1, h2, h3, fun h5 => h4 (by rw [lt' _ (by omega)] at h5; exact h5)⟩
    ·rw [lt' _ (by omega)] at h
     rw [ohter _ _ _ _ k9 k1 (by omega)]
     exact p1 h
    ·rw [lt' _ (by omega)] at h
     rw [ohter _ _ _ _ k9 k2 (by omega)]
     exact p2 h
    ·rw [lt' _ (by omega)] at h
     rw [ohter _ _ _ _ k9 k3 (by omega)]
     exact p3 h
    ·rw [lt' _ (by omega)] at h
     rw [ohter _ _ _ _ k9 k4 (by omega)]
     exact p4 h
    ·exact same _ _ k9
    ·rw [lt' _ (by omega)] at h
     rw [ohter _ _ _ _ k9 k5 (by omega)] at hb1
     obtain ⟨q1, q2⟩ := pA h b hb1
     exact ⟨q1, fun h7 => q2 (by rw [lt' _ (by omega)] at h7; exact h7)⟩
    ·rw [lt' _ (by omega)] at h
     rw [ohter _ _ _ _ k9 k6 (by omega)] at hb1
     obtain ⟨q1, q2⟩ := pB h b hb1
     exact ⟨q1, fun h7 => q2 (by rw [lt' _ (by omega)] at h7; exact h7)⟩
 ·intro L act u hI hall
  have hL : ∀ j, j < k + 10 → L j = true := fun j h => hall j (by omega)
  have e : act = putL ds (fun j => act.eval (.tmp ((ds[j]?.getD none).getD 0))) 0 a := by
   refine act_ext (by rw [putL_size]; exact hI.size) (by rw [putL_defers]; exact hI.defers) fun t ht => ?_
   by_cases hm' : some t ∈ ds
   ·obtain ⟨j, hj⟩ := List.getElem?_of_mem hm'
    rw [putL_at ds _ t j 0 a honce hj (by rw [← hI.size]; exact ht), Nat.zero_add, hj]
    rfl
   ·rw [putL_other ds _ t 0 a (fun d hd e => hm' (by rw [← e]; exact hd))]
    exact hI.frame t (fun j _ e => hm' (List.mem_of_getElem? e))
  obtain ⟨D, p0, pd, p1, p2, p3, p4, p9, pA, pB⟩ := hI.post (hL k (by omega))
  obtain ⟨b1, h1, h2, h3, _⟩ := hI.A (hL _ (by omega))
  obtain ⟨b2, g1, g2, g3, _⟩ := hI.B (hL _ (by omega))
  rw [e]
  exact fin _ u D b1 b2 hI.bl (by simp only [k9]; exact p9 (hL _ (by omega))) (by simp only [k5]; exact h1) (by simp only [k6]; exact g1) h2 g2 ((pA (hL _ (by omega)) b1 h1).2 (hL _ (by omega))) ((pB (hL _ (by omega)) b2 g1).2 (hL _ (by omega))) pd
theorem but4F (u : World) (b : Nat) (v0 v1 v2 v3 : Value) : But (fun i => i = b) u ((((u.setCell ⟨b, 0, none⟩ v0).setCell ⟨b, 1, none⟩ v1).setCell ⟨b, 2, none⟩ v2).setCell ⟨b, 3, none⟩ v3) := (((but_cell1 (S := fun i => i = b) rfl _ _ _).trans (but_cell1 (S := fun i => i = b) rfl _ _ _)).trans (but_cell1 (S := fun i => i = b) rfl _ _ _)).trans (but_cell1 (S := fun i => i = b) rfl _ _ _)
theorem heap4F {g l : Nat} (u : World) (h : l ≠ g) (v0 v1 v2 v3 : Value) : ((((u.setCell ⟨g, 0, none⟩ v0).setCell ⟨g, 1, none⟩ v1).setCell ⟨g, 2, none⟩ v2).setCell ⟨g, 3, none⟩ v3).heap[l]? = u.heap[l]? := by
 rw [heap1 _ h, heap1 _ h, heap1 _ h, heap1 _ h]
theorem noB_newSF (u : World) (t : TypeId) : NoB (u.alloc (.cells #[.slice none 0 0, .int .i64 0, .int .i64 0, .slice none 0 0] t)) u.heap.size := by
 intro o x
 rcases o with _ | _ | _ | _ | o <;> simp [go_sem]
theorem mx_ltF {u : World} {R C : Nat} {p : Option Addr} {n cap : Nat} {f : Nat → Nat → Fr} (h : Mx 3 cellsF u R C p n cap f) : ∀ g, (Value.slice p n cap).ownBlock = some g → g < u.heap.size := by
 obtain ⟨b', o, rfl, _, hlt, hcell⟩ := h.cells
 intro g hg
 cases hg
 exact hlt
theorem noB_rwF {u : World} {p : Option Addr} {n cap b : Nat} {x : Nat → Fr} (h : Rw 3 cellsF u (.slice p n cap) (linJ n x)) (h1 : 1 ≤ n) (nb : NoB u b) : ∀ g, (Value.slice p n cap).ownBlock = some g → g ≠ b := by
 rcases h with ⟨_, e⟩ | ⟨g, o, c, e, _, hlt, hx⟩
 ·have := congrArg List.length e
  rw [linJ_len] at this
  simp at this
  omega
 ·rintro g' hg rfl
  obtain ⟨j, y, hj⟩ := boolF (x 0)
  have := hx 0 _ (linJ_get x h1) j _ hj
  simp only [Value.slice.injEq] at e
  obtain ⟨rfl, _⟩ := e
  cases hg
  exact nb _ _ this
theorem whole_linF (p : Option Addr) (n cap : Nat) (h : Nat → Int) (w : World) (hr : Rq 1 cI w (.slice p n cap) (linJ n h)) (hl : n ≤ 1000000) :
  Calls Tryz.prog 16 #[.slice p n cap] w fun e w' => ∃ q c, e = .returned (.slice q n c) ∧ Rw 3 cellsF w' (.slice q n c) (linJ n fun i => wholeF (h i)) ∧ Bl w w' :=
 (vWholeF _ _ w hr (by rw [linJ_len]; exact hl)).mono fun e w' ⟨u, he, hr, hb⟩ => by
  rw [linJ_map] at hr
  obtain ⟨q, c, rfl, _, _⟩ := hr.cut
  rw [linJ_len] at hr he
  exact ⟨q, c, he, hr, hb⟩
def updF (n N : Nat) (x : Nat → Fr) (P : Nat → Nat → Fr) (e a : Fr) : Upd (Option Addr × Nat × Option Addr × Nat) where
 v0 D := sJ D.1 n D.2.1 n n D.2.2.1 N D.2.2.2
 v1 _ := newsVF e a
 v2 _ := .bool true
 dat D u := Rw 3 cellsF u (.slice D.1 n D.2.1) (linJ n x) ∧ Mx 3 cellsF u n n D.2.2.1 N D.2.2.2 P
 off D b := (∀ g, (Value.slice D.1 n D.2.1).ownBlock = some g → g ≠ b) ∧ ∀ g, (Value.slice D.2.2.1 N D.2.2.2).ownBlock = some g → g ≠ b
 za u b := SBox u b none 0 0 0 0 none 0 0
 zb u b := NBoxF u b zeroR zeroR
 sa D u b := SBox u b D.1 n D.2.1 n n D.2.2.1 N D.2.2.2
 sb _ u b := NBoxF u b e a
theorem s_not_nF {u : World} {b : Nat} {px : Option Addr} {nx cx : Nat} {r c : Int} {p : Option Addr} {m cap : Nat} {x y : Fr} (h : SBox u b px nx cx r c p m cap) (k : NBoxF u b x y) : False := by
 have := h.c0.symm.trans k.c0
 simp at this
theorem updF_ok (n N : Nat) (x : Nat → Fr) (P : Nat → Nat → Fr) (e a : Fr) : UpdOk (updF n N x P e a) where
 dat_bl D u u' h k := ⟨h.1.later k, Mx.later h.2 k⟩
 dat_off D u b h hb := ⟨fun g hg => by have := h.1.lt g hg; omega, fun g hg => by have := mx_ltF h.2 g hg; omega⟩
 za_heap u u' b h _ e hs := SBox.heap h e hs
 zb_heap u u' b h _ e hs := NBoxF.heap h e hs
 sa_heap D u u' b h _ e hs := SBox.heap h e hs
 sb_heap D u u' b h _ e hs := NBoxF.heap h e hs
 ne0 u b h k := s_not_nF h k
 ne1 D u b h k := s_not_nF h k
 ne2 D u b h k := s_not_nF h k
theorem butNF (u : World) (b : Nat) (x y : Fr) : But (fun i => i = b) u ((((((u.setCell ⟨b, 0, none⟩ (.int .i64 x.n)).setCell ⟨b, 1, none⟩ (.int .i64 x.d)).setCell ⟨b, 2, none⟩ (.bool x.bad)).setCell ⟨b, 3, none⟩ (.int .i64 y.n)).setCell ⟨b, 4, none⟩ (.int .i64 y.d)).setCell ⟨b, 5, none⟩ (.bool y.bad)) := (((((but_cell1 (S := fun i => i = b) rfl _ _ _).trans (but_cell1 (S := fun i => i = b) rfl _ _ _)).trans (but_cell1 (S := fun i => i = b) rfl _ _ _)).trans (but_cell1 (S := fun i => i = b) rfl _ _ _)).trans (but_cell1 (S := fun i => i = b) rfl _ _ _)).trans (but_cell1 (S := fun i => i = b) rfl _ _ _)
theorem heapNF {l b : Nat} (u : World) (h : l ≠ b) (x y : Fr) : ((((((u.setCell ⟨b, 0, none⟩ (.int .i64 x.n)).setCell ⟨b, 1, none⟩ (.int .i64 x.d)).setCell ⟨b, 2, none⟩ (.bool x.bad)).setCell ⟨b, 3, none⟩ (.int .i64 y.n)).setCell ⟨b, 4, none⟩ (.int .i64 y.d)).setCell ⟨b, 5, none⟩ (.bool y.bad)).heap[l]? = u.heap[l]? := by
 rw [heap1 _ h, heap1 _ h, heap1 _ h, heap1 _ h, heap1 _ h, heap1 _ h]
theorem blNF {w u : World} (b : Nat) (h : Bl w u) (hb : w.heap.size ≤ b) (x y : Fr) : Bl w ((((((u.setCell ⟨b, 0, none⟩ (.int .i64 x.n)).setCell ⟨b, 1, none⟩ (.int .i64 x.d)).setCell ⟨b, 2, none⟩ (.bool x.bad)).setCell ⟨b, 3, none⟩ (.int .i64 y.n)).setCell ⟨b, 4, none⟩ (.int .i64 y.d)).setCell ⟨b, 5, none⟩ (.bool y.bad)) := Bl.set (Bl.set (Bl.set (Bl.set (Bl.set (Bl.set (h) hb _) hb _) hb _) hb _) hb _) hb _
end Go.Proofs.YtljmggemdkfbiaaGreat
