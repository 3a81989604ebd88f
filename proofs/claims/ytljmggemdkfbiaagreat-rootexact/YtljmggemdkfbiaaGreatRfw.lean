/- The loop of Rfv, where what a round is told may speak of all that came before. -/
import Derived.Test.YtljmggemdkfbiaaGreatRfv
import Derived.Test.YtljmggemdkfbiaaGreatHuA
namespace Go.Proofs.YtljmggemdkfbiaaGreat
open Go.RowKit
set_option linter.unusedSimpArgs false
set_option linter.unusedVariables false

/-- What the iterator's call leaves, the record and what else is no cells beside the invariant. -/
theorem rw_run {α : Type} {F : Fence} {n : Nat} {P : Program} {l B : Nat} {w W1 : World} (hB : B ≤ l) (hb : Bl w W1) (hlt1 : B ≤ W1.heap.size) {r : Loop} (hst : r.state = .ready) (hpe : r.pending = none) (hfn : F.fn r.fn)
    {gf : Nat} {lb : Array Value} {encs : α → Array Value} {V : α → World → World → Prop} {Kp : World → World → Prop} {S Sp : List α → Prop} {N : Nat} (hseq : SeqV F n P gf lb encs V Kp S Sp N w) (hV : ∀ x A B, V x A B → Bl A B)
    (hps : ∀ x, (encs x).size = r.params.size)
    (hKt : ∀ {A B C : World}, Kp A B → Kp B C → Kp A C) (hKb : ∀ (W : World) (l : Nat) (o o' : Obj), B ≤ l → W.heap[l]? = some o → o.isCells = false → o.isWalk = false → Kp W (W.putObj l o'))
    {I : List α → World → Prop} {Ix : Code → List α → World → Prop} (hI : OwnFrom B I) (hIx : ∀ c, OwnFrom B (Ix c)) {Ax : List α → α → Act → World → Prop} (hAx : ∀ pre x a', OwnFrom B (fun (_ : Unit) W => Ax pre x a' W))
    (hl : W1.heap[l]? = some (.loop r)) (h0 : I [] W1) (D : Nat) (od : Obj) (hD : B ≤ D) (hDl : D ≠ l) (hod : W1.heap[D]? = some od ∨ W1.heap.size ≤ D) (hoc : od.isCells = false) (how : od.isWalk = false)
    (hassign : ∀ (pre : List α) (x : α) (W0 W : World) (K : Act → World → Prop), I pre W0 → V x W0 W → I pre W → (∀ a' W', KeepsFrom B W W' → Kp W W' → I pre W' → Ax pre x a' W' → K a' W') →
      r.assign.wpIn (F.inRound l) (n - 1) P (Exit.then K (fun _ _ _ => False)) { tmps := (r.params.zip (encs x)).foldl (fun t (p, v) => t.setIfInBounds p v) r.tmps, defers := [] } W)
    (hbody : ∀ (pre : List α) (x : α) (a' : Act) (W : World), (∃ r', W.heap[l]? = some (.loop r')) → I pre W → Ax pre x a' W → pre.length < N → r.body.wpIn (F.inRound l) (n - 1) P (ownPostG B Kp I Ix (pre ++ [x]) W) a' W) :
    CallsIn F n P gf (#[.func (.yield l) #[] #[]] ++ lb) W1 fun e W' => (∃ v, e = .returned v) ∧ ((∃ xs, S xs ∧ I xs W' ∧ W'.heap[l]? = some (.loop r) ∧ (W1.heap[D]? = some od → W'.heap[D]? = some od)) ∨ ∃ pre c, Sp pre ∧ Ix c pre W' ∧ W'.heap[l]? = some (.loop (recOf r (some c))) ∧ (W1.heap[D]? = some od → W'.heap[D]? = some od)) := by
  have keep : ∀ {A C : World} {row : Option Nat}, A.grownBy C row → (∀ q, row = some q → W1.heap.size ≤ q ∧ ∃ o : Obj, A.heap[q]? = some o ∧ o.isWalk = true) → ∀ (k : Nat) (o : Obj), A.heap[k]? = some o → o.isWalk = false → C.heap[k]? = some o := by
    intro A C row hg hr k o hk ho
    refine (hg.block k (Array.getElem?_eq_some_iff.1 hk).1 (fun e => ?_)).trans hk
    obtain ⟨_, o', ho', hw⟩ := hr k e.symm
    rw [hk] at ho'
    cases ho'
    rw [ho] at hw
    cases hw
  have own : ∀ {A : World} {row : Option Nat}, (∀ q, row = some q → W1.heap.size ≤ q ∧ ∃ o : Obj, A.heap[q]? = some o ∧ o.isWalk = true) → ∀ q, row = some q → B ≤ q ∧ ∃ o : Obj, A.heap[q]? = some o ∧ o.isCells = false := by
    intro A row hr q e
    obtain ⟨h1, o, ho, hw⟩ := hr q e
    exact ⟨Nat.le_trans hlt1 h1, o, ho, Obj.not_cells_of_walk hw⟩
  refine (hseq l (fun pre W => I pre W ∧ W.heap[l]? = some (.loop r) ∧ (W1.heap[D]? = some od → W.heap[D]? = some od)) (fun pre W => ∃ c, Ix c pre W ∧ W.heap[l]? = some (.loop (recOf r (some c))) ∧ (W1.heap[D]? = some od → W.heap[D]? = some od)) W1 hb
    (fun s A C row hs hg hr => ⟨hI s A C row hs.1 hg (own hr), keep hg hr _ _ hs.2.1 rfl, fun h => keep hg hr _ _ (hs.2.2 h) how⟩)
    (fun s A C row hs hg hr => by obtain ⟨c, h1, h2, h3⟩ := hs; exact ⟨c, hIx c s A C row h1 hg (own hr), keep hg hr _ _ h2 rfl, fun h => keep hg hr _ _ (h3 h) how⟩) ?_ ⟨h0, hl, id⟩).mono ?_
  · rintro pre x W0 W ⟨i0, l0, d0⟩ hv hlen
    have hbv := hV x W0 W hv
    have hlW := (Below.block hbv l (Array.getElem?_eq_some_iff.1 l0).1).trans l0
    refine ((rv_round (Kp := Kp) (ys := pre ++ [x]) hB hst hfn (hps x) hKt hKb hI hIx (hAx pre x) hlW (fun K hK => hassign pre x W0 W K i0 hv (own_later hI hbv i0) hK) (fun a' W' hr hi ha => hbody pre x a' W' hr hi ha hlen)) : YieldAt F (n - 1) P l (encs x) W _).mono ?_
    rintro e W' ⟨j, rfl, hl', ho, hj⟩
    have hd' : W1.heap[D]? = some od → W'.heap[D]? = some od := fun h => ho D od hD hDl ((Below.block hbv D (Array.getElem?_eq_some_iff.1 (d0 h)).1).trans (d0 h)) hoc
    cases j with
    | none => exact .inl ⟨rfl, ⟨hj.1, by rw [recOf_none hst hpe] at hl'; exact hl', hd'⟩, hj.2⟩
    | some c => exact .inr ⟨rfl, c, hj, hl', hd'⟩
  · rintro e W' ⟨he, (⟨xs, h1, h2, h3, h4⟩ | ⟨pre, h1, c, h2, h3, h4⟩)⟩
    · exact ⟨he, .inl ⟨xs, h1, h2, h3, h4⟩⟩
    · exact ⟨he, .inr ⟨pre, c, h1, h2, h3, h4⟩⟩
/-- The loop, outside of a round. -/
theorem rangeW {α : Type} {F : Fence} {n : Nat} {P : Program} {g : Operand} {ps : Array Tmp} {assign body : Code} {Q : Exit → Act → World → Prop} {a : Act} {w : World}
    (hro : F.round = none) (h1 : 1 ≤ n) {gf : Nat} {lb : Array Value} (hg : a.eval g = .func (.func gf) #[] lb) (hFg : F.fn gf) (eg : ∀ args w, (callFunc gf args).run P w = .ok (.enter gf args) w)
    {encs : α → Array Value} {V : α → World → World → Prop} {Kp : World → World → Prop} {S Sp : List α → Prop} {N : Nat} (hseq : SeqV F (n - 1) P gf lb encs V Kp S Sp N w) (hV : ∀ x A B, V x A B → Bl A B)
    (hKt : ∀ {A B C : World}, Kp A B → Kp B C → Kp A C) (hKb : ∀ (W : World) (l : Nat) (o o' : Obj), w.heap.size ≤ l → W.heap[l]? = some o → o.isCells = false → o.isWalk = false → Kp W (W.putObj l o')) (hps : ∀ x, (encs x).size = ps.size)
    (I : List α → World → Prop) (Ix : Code → List α → World → Prop) (hI : OwnFrom w.heap.size I) (hIx : ∀ c, OwnFrom w.heap.size (Ix c)) (h0 : I [] w) (Ax : Act → List α → α → Act → World → Prop) (hAx : ∀ pre x a', OwnFrom w.heap.size (fun (_ : Unit) W => Ax a pre x a' W))
    (hassign : ∀ (l : Nat) (pre : List α) (x : α) (W0 W : World) (K : Act → World → Prop), I pre W0 → V x W0 W → I pre W → (∀ a' W', KeepsFrom w.heap.size W W' → Kp W W' → I pre W' → Ax a pre x a' W' → K a' W') →
      assign.wpIn (F.inRound l) (n - 1 - 1) P (Exit.then K (fun _ _ _ => False)) { tmps := (ps.zip (encs x)).foldl (fun t (p, v) => t.setIfInBounds p v) a.tmps, defers := [] } W)
    (hbody : ∀ (l : Nat) (pre : List α) (x : α) (a' : Act) (W : World), w.heap.size ≤ l → (∃ r, W.heap[l]? = some (.loop r)) → I pre W → Ax a pre x a' W → pre.length < N → body.wpIn (F.inRound l) (n - 1 - 1) P (ownPostG w.heap.size Kp I Ix (pre ++ [x]) W) a' W)
    (hdone : ∀ (D : Nat) (xs : List α) (W : World), w.heap.size ≤ D → S xs → I xs W → W.heap[D]? = some (.deferred (some [])) → Q .normal { a with defers := { target := .collected D, args := #[] } :: a.defers } W)
    (hstop : ∀ (D : Nat) (c : Code) (pre : List α) (W : World), w.heap.size ≤ D → Sp pre → Ix c pre W → W.heap[D]? = some (.deferred (some [])) → c.wpIn F n P Q { a with defers := { target := .collected D, args := #[] } :: a.defers } W) :
    (Code.rangeFunc g ps assign body).wpIn F n P Q a w := by
  refine wpIn_rangeFunc fun fn hfn => ?_
  rw [hro]
  have he := run_enterLoop_outer (P := P) (w := w) fn a.tmps ps assign body
  generalize hr : ({ state := .ready, pending := none, fn, tmps := a.tmps, params := ps, assign, body, defers := w.heap.size } : Loop) = r at he
  obtain ⟨e1, e2, e3, e4, e5, e6, e7⟩ : r.state = .ready ∧ r.pending = none ∧ r.fn = fn ∧ r.tmps = a.tmps ∧ r.params = ps ∧ r.assign = assign ∧ r.body = body := by rw [← hr]; exact ⟨rfl, rfl, rfl, rfl, rfl, rfl, rfl⟩
  clear hr
  generalize hW : (w.alloc (.deferred (some []))).alloc (.loop r) = W1 at he
  have hb : Bl w W1 := by rw [← hW]; exact ((Bl.refl w).alloc _).alloc _
  have hl : W1.heap[w.heap.size + 1]? = some (.loop r) := by
    rw [← hW]; have := World.alloc_heap_new (w.alloc (.deferred (some []))) (.loop r); rwa [World.size_alloc] at this
  have hd : W1.heap[w.heap.size]? = some (.deferred (some [])) := by rw [← hW]; exact (Below.heap_alloc _ _ _ (by simp)).trans (World.alloc_heap_new w _)
  refine ⟨_, _, _, { target := .fn (.func gf) lb, args := #[.func (.yield (w.heap.size + 1)) #[] #[]] }, W1, gf, #[.func (.yield (w.heap.size + 1)) #[] #[]] ++ lb, W1, he, ?_, ?_, ?_, fun _ => h1, ?_⟩
  · simp only [resolve, hg]
    simp [go_sem]
  · intro f' hf'
    simp [Target.leads] at hf'
    subst hf'
    exact hFg
  · simp [invoke, go_sem, eg]
  · refine (rw_run (Kp := Kp) (Ax := Ax a) (Nat.le_succ _) hb hb.size e1 e2 (e3 ▸ hfn) hseq hV (by rw [e5]; exact hps) hKt hKb hI hIx hAx hl (own_later hI hb h0) w.heap.size (.deferred (some [])) (Nat.le_refl _) (by omega) (.inl hd) rfl rfl
      (by rw [e4, e5, e6]; exact fun pre x W0 W K => hassign _ pre x W0 W K) (by rw [e7]; exact fun pre x a' W h => hbody _ pre x a' W (Nat.le_succ _) h)).mono ?_
    rintro e W' ⟨⟨v, rfl⟩, (⟨xs, h1, h2, h3, h4⟩ | ⟨pre, c, h1, h2, h3, h4⟩)⟩
    · have hq := run_endLoop (P := P) h3 (by rw [e1]; decide)
      rw [e2] at hq
      exact ⟨none, _, hq, hdone _ xs _ (Nat.le_refl _) h1 (hI.putObj _ h2 (Nat.le_succ _) h3 rfl) ((World.putObj_heap_other (by omega)).trans (h4 hd))⟩
    · have hq := run_endLoop (P := P) h3 (by simp [recOf])
      exact ⟨some c, _, hq, hstop _ c pre _ (Nat.le_refl _) h1 ((hIx c).putObj _ h2 (Nat.le_succ _) h3 rfl) ((World.putObj_heap_other (by omega)).trans (h4 hd))⟩
/-- The loop, within a round of another one. -/
theorem rangeWin {α : Type} {F : Fence} {n : Nat} {P : Program} {l₀ : Nat} {r₀ : Loop} {g : Operand} {ps : Array Tmp} {assign body : Code} {Q : Exit → Act → World → Prop} {a : Act} {w : World}
    (hro : F.round = some l₀) (hl₀ : w.heap[l₀]? = some (.loop r₀)) (h1 : 1 ≤ n) {gf : Nat} {lb : Array Value} (hg : a.eval g = .func (.func gf) #[] lb) (hFg : F.fn gf) (eg : ∀ args w, (callFunc gf args).run P w = .ok (.enter gf args) w)
    {encs : α → Array Value} {V : α → World → World → Prop} {Kp : World → World → Prop} {S Sp : List α → Prop} {N : Nat} (hseq : SeqV F (n - 1) P gf lb encs V Kp S Sp N w) (hV : ∀ x A B, V x A B → Bl A B)
    (hKt : ∀ {A B C : World}, Kp A B → Kp B C → Kp A C) (hKb : ∀ (W : World) (l : Nat) (o o' : Obj), w.heap.size ≤ l → W.heap[l]? = some o → o.isCells = false → o.isWalk = false → Kp W (W.putObj l o')) (hps : ∀ x, (encs x).size = ps.size)
    (I : List α → World → Prop) (Ix : Code → List α → World → Prop) (hI : OwnFrom w.heap.size I) (hIx : ∀ c, OwnFrom w.heap.size (Ix c)) (h0 : I [] w) (Ax : Act → List α → α → Act → World → Prop) (hAx : ∀ pre x a', OwnFrom w.heap.size (fun (_ : Unit) W => Ax a pre x a' W))
    (hassign : ∀ (l : Nat) (pre : List α) (x : α) (W0 W : World) (K : Act → World → Prop), I pre W0 → V x W0 W → I pre W → (∀ a' W', KeepsFrom w.heap.size W W' → Kp W W' → I pre W' → Ax a pre x a' W' → K a' W') →
      assign.wpIn (F.inRound l) (n - 1 - 1) P (Exit.then K (fun _ _ _ => False)) { tmps := (ps.zip (encs x)).foldl (fun t (p, v) => t.setIfInBounds p v) a.tmps, defers := [] } W)
    (hbody : ∀ (l : Nat) (pre : List α) (x : α) (a' : Act) (W : World), w.heap.size ≤ l → (∃ r, W.heap[l]? = some (.loop r)) → I pre W → Ax a pre x a' W → pre.length < N → body.wpIn (F.inRound l) (n - 1 - 1) P (ownPostG w.heap.size Kp I Ix (pre ++ [x]) W) a' W)
    (hdone : ∀ (xs : List α) (W : World), S xs → I xs W → Q .normal a W)
    (hstop : ∀ (c : Code) (pre : List α) (W : World), Sp pre → Ix c pre W → c.wpIn F n P Q a W) :
    (Code.rangeFunc g ps assign body).wpIn F n P Q a w := by
  refine wpIn_rangeFunc fun fn hfn => ?_
  rw [hro]
  have he := run_enterLoop_inner (P := P) hl₀ fn a.tmps ps assign body
  generalize hr : ({ state := .ready, pending := none, fn, tmps := a.tmps, params := ps, assign, body, defers := r₀.defers } : Loop) = r at he
  obtain ⟨e1, e2, e3, e4, e5, e6, e7⟩ : r.state = .ready ∧ r.pending = none ∧ r.fn = fn ∧ r.tmps = a.tmps ∧ r.params = ps ∧ r.assign = assign ∧ r.body = body := by rw [← hr]; exact ⟨rfl, rfl, rfl, rfl, rfl, rfl, rfl⟩
  clear hr
  generalize hW : w.alloc (.loop r) = W1 at he
  have hb : Bl w W1 := by rw [← hW]; exact (Bl.refl w).alloc _
  have hl : W1.heap[w.heap.size]? = some (.loop r) := by rw [← hW]; exact World.alloc_heap_new w _
  have hs1 : W1.heap.size = w.heap.size + 1 := by rw [← hW]; simp
  refine ⟨_, _, _, { target := .fn (.func gf) lb, args := #[.func (.yield w.heap.size) #[] #[]] }, W1, gf, #[.func (.yield w.heap.size) #[] #[]] ++ lb, W1, he, ?_, ?_, ?_, fun _ => h1, ?_⟩
  · simp only [resolve, hg]
    simp [go_sem]
  · intro f' hf'
    simp [Target.leads] at hf'
    subst hf'
    exact hFg
  · simp [invoke, go_sem, eg]
  · refine (rw_run (Kp := Kp) (Ax := Ax a) (Nat.le_refl _) hb hb.size e1 e2 (e3 ▸ hfn) hseq hV (by rw [e5]; exact hps) hKt hKb hI hIx hAx hl (own_later hI hb h0) (w.heap.size + 1) (.deferred (some [])) (Nat.le_succ _) (by omega) (.inr (by omega)) rfl rfl
      (by rw [e4, e5, e6]; exact fun pre x W0 W K => hassign _ pre x W0 W K) (by rw [e7]; exact fun pre x a' W h => hbody _ pre x a' W (Nat.le_refl _) h)).mono ?_
    rintro e W' ⟨⟨v, rfl⟩, (⟨xs, h1, h2, h3, _⟩ | ⟨pre, c, h1, h2, h3, _⟩)⟩
    · have hq := run_endLoop (P := P) h3 (by rw [e1]; decide)
      rw [e2] at hq
      exact ⟨none, _, hq, hdone xs _ h1 (hI.putObj _ h2 (Nat.le_refl _) h3 rfl)⟩
    · have hq := run_endLoop (P := P) h3 (by simp [recOf])
      exact ⟨some c, _, hq, hstop c pre _ h1 ((hIx c).putObj _ h2 (Nat.le_refl _) h3 rfl)⟩
theorem RwZ.own {α : Type} {s : Nat} {c : α → List Value} (hs : ∀ x, (c x).length = s) (s0 : 0 < s) {X Y : World} {lo : Nat} {v : Value} {xs : List α} {row : Option Nat} (h : RwZ s c X lo v xs) (hne : xs ≠ []) (hg : X.grownBy Y row) (hr : ∀ r, row = some r → ∃ o : Obj, X.heap[r]? = some o ∧ o.isCells = false) : RwZ s c Y lo v xs := by
  obtain ⟨b, cap, rfl, hc, hlo, hb, hf, hx⟩ := h
  obtain ⟨x0, xs', rfl⟩ := List.exists_cons_of_ne_nil hne
  have hcell := hx 0 x0 rfl 0 _ (List.getElem?_eq_getElem (by rw [hs]; exact s0))
  have hbr : row ≠ some b := by
    intro e
    obtain ⟨o, ho, hoc⟩ := hr b e
    unfold World.cell? at hcell
    simp only [ho] at hcell
    cases o <;> simp_all [Obj.isCells]
  have hblk := hg.block b hb (fun e => hbr e.symm)
  exact ⟨b, cap, rfl, hc, hlo, Nat.lt_of_lt_of_le hb hg.size, fun o => (World.frozen?_of_block (a := ⟨b, o, none⟩) hblk).trans (hf o), fun j x hj k u hu => (World.cell?_of_block (a := ⟨b, j * s + k, none⟩) hblk).trans (hx j x hj k u hu)⟩
/-- A row's block that an append to another row, and a store into a variable, leave as it was. -/
theorem RwZ.beside {α : Type} {s : Nat} {c : α → List Value} {u w5 : World} {lo B : Nat} {v v' : Value} {xs : List α} {row : Option Nat} (h : RwZ s c u lo v xs) (hg : u.grownBy w5 row) (hne : ∀ g, v.ownBlock = some g → row ≠ some g ∧ g ≠ B) : RwZ s c (w5.setCell ⟨B, 0, none⟩ v') lo v xs := by
  obtain ⟨b, cap, rfl, hc, hlo, hb, hf, hx⟩ := h
  have h1 := hne b rfl
  have hk : (w5.setCell ⟨B, 0, none⟩ v').heap[b]? = u.heap[b]? := (Below.heap_setCell _ _ _ b (by show b ≠ B; exact h1.2)).trans (hg.block b hb (fun e => h1.1 e.symm))
  exact ⟨b, cap, rfl, hc, hlo, by simp; exact Nat.lt_of_lt_of_le hb hg.size, fun o => (World.frozen?_of_block (a := ⟨b, o, none⟩) hk).trans (hf o), fun j x hj k u hu => (World.cell?_of_block (a := ⟨b, j * s + k, none⟩) hk).trans (hx j x hj k u hu)⟩
/-- A row's value, as the cell of a table. -/
abbrev hdC (C : Nat) (x : RowX) : List Value := [rowV C x]
theorem hd_flat (C : Nat) : ∀ (pre : List RowX), (pre.flatMap (hdC C)).length = pre.length
  | [] => rfl
  | x :: pre => by rw [List.flatMap_cons, List.length_append, hd_flat C pre, List.length_cons]; simp [hdC]; omega
theorem hd_get (C : Nat) : ∀ (pre : List RowX) (i : Nat) (x : RowX), pre[i]? = some x → (pre.flatMap (hdC C))[i]? = some (rowV C x)
  | [], i, x, h => by simp at h
  | y :: pre, 0, x, h => by simp at h; subst h; rfl
  | y :: pre, i + 1, x, h => by
    rw [List.flatMap_cons]
    show ([rowV C y] ++ pre.flatMap (hdC C))[i + 1]? = _
    rw [List.getElem?_append_right (by simp)]
    exact hd_get C pre i x (by simpa using h)
/-- The rows that have come: each in a block of its own. -/
def RowsZ {α : Type} (s : Nat) (c : α → List Value) (lo R C : Nat) (f : Nat → Nat → α) (pre : List RowX) (U : World) : Prop :=
  (∀ y ∈ pre, RwZ s c U lo (rowV C y) (rowM C f y.1) ∧ y.1 < R) ∧ pre.Pairwise fun x y => (rowV C x).ownBlock ≠ (rowV C y).ownBlock
theorem rowsZ_own {α : Type} {s : Nat} {c : α → List Value} (hs : ∀ x, (c x).length = s) (s0 : 0 < s) (B lo R C : Nat) (h0 : 0 < C) (f : Nat → Nat → α) : OwnFrom B (RowsZ s c lo R C f) :=
  fun pre X Y row h hg hr => ⟨fun y hy => ⟨(h.1 y hy).1.own hs s0 (by intro e; have := congrArg List.length e; rw [rowM_len] at this; simp at this; omega) hg (fun r e => (hr r e).2), (h.1 y hy).2⟩, h.2⟩
/-- The table of all rows. -/
theorem Tbl.of {α : Type} {s : Nat} {c : α → List Value} {U : World} {base lo R C : Nat} {t : TypeId} {f : Nat → Nat → α} {zs : List RowX} {v : Value} (hS : zs.map (·.1) = List.range R) (hR : 0 < R)
    (hrow : U.ownsRow base t 1 v zs.length (zs.flatMap (hdC C))) (hZ : RowsZ s c lo R C f zs U) (hG : ∀ y ∈ zs, v.ownBlock ≠ (rowV C y).ownBlock) :
    ∃ H hc B cp, v = .slice (some ⟨H, 0, none⟩) R hc ∧ R ≤ hc ∧ base ≤ H ∧ Tbl s c U H B cp R C f ∧ ∀ i, i < R → lo ≤ B i := by
  have hlen : zs.length = R := by have := congrArg List.length hS; simpa using this
  have at_ : ∀ i, i < R → ∃ x, zs[i]? = some x ∧ x.1 = i ∧ ∃ b, x.2.1 = some ⟨b, 0, none⟩ ∧ C ≤ x.2.2 ∧ lo ≤ b ∧ b < U.heap.size ∧ (∀ o, U.frozen? ⟨b, o, none⟩ = false) ∧ ∀ j z, (rowM C f i)[j]? = some z → ∀ k u, (c z)[k]? = some u → U.cell? ⟨b, j * s + k, none⟩ = some u := fun i hi => by
    have hx : zs[i]? = some (zs[i]'(by omega)) := List.getElem?_eq_getElem (by omega)
    have h1 : (zs[i]'(by omega)).1 = i := by
      have := congrArg (·[i]?) hS
      simp only [List.getElem?_map, hx, List.getElem?_range hi, Option.map_some, Option.some.injEq] at this
      exact this
    obtain ⟨b, cap, e, hc, hlo, hb, hf, hcell⟩ := (hZ.1 _ (List.mem_of_getElem? hx)).1
    rw [h1] at hcell
    simp only [rowV, Value.slice.injEq] at e
    rw [rowM_len] at hc
    exact ⟨_, hx, h1, b, e.1, by rw [e.2.2]; exact hc, hlo, hb, hf, hcell⟩
  have ex : ∀ i, ∃ b, i < R → ∃ x, zs[i]? = some x ∧ x.1 = i ∧ x.2.1 = some ⟨b, 0, none⟩ ∧ C ≤ x.2.2 ∧ lo ≤ b ∧ b < U.heap.size ∧ (∀ o, U.frozen? ⟨b, o, none⟩ = false) ∧ ∀ j z, (rowM C f i)[j]? = some z → ∀ k u, (c z)[k]? = some u → U.cell? ⟨b, j * s + k, none⟩ = some u := fun i => by
    by_cases hi : i < R
    · obtain ⟨x, h1, h2, b, h3⟩ := at_ i hi
      exact ⟨b, fun _ => ⟨x, h1, h2, h3⟩⟩
    · exact ⟨0, fun h => absurd h hi⟩
  obtain ⟨B, hB⟩ := Classical.axiomOfChoice ex
  have hB : ∀ i, i < R → ∃ x, zs[i]? = some x ∧ x.1 = i ∧ x.2.1 = some ⟨B i, 0, none⟩ ∧ C ≤ x.2.2 ∧ lo ≤ B i ∧ B i < U.heap.size ∧ (∀ o, U.frozen? ⟨B i, o, none⟩ = false) ∧ ∀ j z, (rowM C f i)[j]? = some z → ∀ k u, (c z)[k]? = some u → U.cell? ⟨B i, j * s + k, none⟩ = some u := hB
  have hlt := hrow.lt
  have hcs : ∀ g, v.ownBlock = some g → ∀ j u, (zs.flatMap (hdC C))[j]? = some u → U.cell? ((⟨g, 0, none⟩ : Addr).add j) = some u := fun g hg => hrow.cells hg
  rcases hrow.2 with ⟨_, e0⟩ | ⟨H, hc, cur, rfl, hbs, _, hcap, _⟩
  · omega
  · refine ⟨H, hc, B, fun i => ((zs[i]?.map fun x : RowX => x.2.2).getD 0), by rw [hlen], by omega, hbs, ⟨fun i hi => ?_, (hlt H rfl).2, fun i hi => ?_, fun i j hi hj e => ?_, fun i hi e => ?_, fun i hi => ?_, fun i j hi hj k u hu => ?_, fun i hi => ?_⟩, fun i hi => ?_⟩
    · obtain ⟨x, hx, h1, h2, _⟩ := hB i hi
      have := hcs H rfl i _ (hd_get C zs i x hx)
      have hadd : (⟨H, 0, none⟩ : Addr).add i = ⟨H, i, none⟩ := by unfold Addr.add; split <;> simp_all
      rw [hadd] at this
      rw [this, hx]
      simp only [rowV, Option.map_some, Option.getD_some, h2]
    · obtain ⟨x, _, _, _, _, _, h, _⟩ := hB i hi
      exact h
    · obtain ⟨x, hx, h1, h2, _⟩ := hB i hi
      obtain ⟨y, hy, k1, k2, _⟩ := hB j hj
      have P := List.pairwise_iff_getElem.1 hZ.2
      have ex : zs[i]'(by omega) = x := by rw [List.getElem?_eq_getElem (by omega)] at hx; exact Option.some.inj hx
      have ey : zs[j]'(by omega) = y := by rw [List.getElem?_eq_getElem (by omega)] at hy; exact Option.some.inj hy
      have same : (rowV C x).ownBlock = (rowV C y).ownBlock := by unfold rowV; rw [h2, k2, e]; rfl
      rcases Nat.lt_trichotomy i j with h | h | h
      · have := P i j (by omega) (by omega) h
        rw [ex, ey] at this
        exact absurd same this
      · exact h
      · have := P j i (by omega) (by omega) h
        rw [ex, ey] at this
        exact absurd same.symm this
    · obtain ⟨x, hx, h1, h2, _⟩ := hB i hi
      refine hG x (List.mem_of_getElem? hx) ?_
      unfold rowV
      rw [h2, e]
      rfl
    · obtain ⟨x, hx, _, _, h, _⟩ := hB i hi
      rw [hx]
      exact h
    · obtain ⟨x, _, _, _, _, _, _, _, h⟩ := hB i hi
      exact h j (f i j) (rowM_get f i hj) k u hu
    · obtain ⟨x, _, _, _, _, _, _, h, _⟩ := hB i hi
      exact h
    · obtain ⟨x, _, _, _, _, h, _⟩ := hB i hi
      exact h
theorem rq_own8 {α : Type} {s : Nat} {c : α → List Value} {X Y : World} {v : Value} {xs : List α} {row : Option Nat} (h : Rq s c X v xs) (hg : X.grownBy Y row) (hr : ∀ r, row = some r → ∃ o : Obj, X.heap[r]? = some o ∧ o.isCells = false) : Rq s c Y v xs := by
  rcases h with h | ⟨b, o, cap, rfl, hc, hb, hx⟩
  · exact .inl h
  · exact .inr ⟨b, o, cap, rfl, hc, Nat.lt_of_lt_of_le hb hg.size, fun j x hj k u hu => cell_kept (hx j x hj k u hu) hg hr⟩
theorem mx_own8 {α : Type} {s : Nat} {c : α → List Value} {X Y : World} {R C : Nat} {p : Option Addr} {n cap : Nat} {f : Nat → Nat → α} {row : Option Nat} (h : Mx s c X R C p n cap f) (hg : X.grownBy Y row) (hr : ∀ r, row = some r → ∃ o : Obj, X.heap[r]? = some o ∧ o.isCells = false) : Mx s c Y R C p n cap f :=
  ⟨h.1, h.2.1, rq_own8 h.2.2 hg hr⟩
theorem own_slice8 {w : World} {B : Nat} {e : TypeId} {s n : Nat} {v : Value} {xs : List Value} (h : w.ownsRow B e s v n xs) (h0 : 0 < n) : ∃ g c, v = .slice (some ⟨g, 0, none⟩) n c := by
  rcases h.2 with ⟨_, e0⟩ | ⟨g, cap, cur, rfl, _⟩
  · omega
  · exact ⟨g, cap, rfl⟩
end Go.Proofs.YtljmggemdkfbiaaGreat
