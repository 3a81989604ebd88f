/- A range over a function, where a round is told what holds of what it is handed (a row that was just laid, say): the iterator's contract, a round, the loop outside of a round and within one. -/
import Derived.Test.YtljmggemdkfbiaaGreatVeG
namespace Go.Proofs.YtljmggemdkfbiaaGreat
open Go.RowKit
set_option linter.unusedSimpArgs false
set_option linter.unusedVariables false

theorem Bl.grown0 {w w' : World} (h : Bl w w') : w.grownBy w' none := ⟨h.os, h.tape, h.output, h.size, fun k hk _ => h.block k hk⟩
theorem own_later {β : Type} {B : Nat} {I : β → World → Prop} (h : OwnFrom B I) {s : β} {w w' : World} (k : Bl w w') (hs : I s w) : I s w' := h s w w' none hs k.grown0 nofun
/-- An iterator: of each x that is handed to yield in W1, V x W0 W1 holds, W0 being the world behind the round before. -/
def SeqV {α : Type} (F : Fence) (n : Nat) (P : Program) (g : Nat) (lb : Array Value) (encs : α → Array Value) (V : α → World → World → Prop) (Kp : World → World → Prop) (S Sp : List α → Prop) (N : Nat) (w : World) : Prop :=
  ∀ (l : Nat) (J Jx : List α → World → Prop) (W : World), Bl w W → AbidesFrom W.heap.size J → AbidesFrom W.heap.size Jx →
    (∀ pre x W0 W1, J pre W0 → V x W0 W1 → pre.length < N → YieldAt F (n - 1) P l (encs x) W1 fun e W' =>
      (e = .returned (.bool true) ∧ J (pre ++ [x]) W' ∧ Kp W1 W') ∨ (e = .returned (.bool false) ∧ Jx (pre ++ [x]) W')) →
    J [] W → CallsIn F n P g (#[.func (.yield l) #[] #[]] ++ lb) W fun e W' => (∃ v, e = .returned v) ∧ ((∃ xs, S xs ∧ J xs W') ∨ ∃ pre, Sp pre ∧ Jx pre W')
theorem SeqV.inRound {α : Type} {F : Fence} {n : Nat} {P : Program} {g : Nat} {lb : Array Value} {encs : α → Array Value} {V : α → World → World → Prop} {Kp : World → World → Prop} {S Sp : List α → Prop} {N : Nat} {w : World} (l : Nat)
    (h : SeqV F n P g lb encs V Kp S Sp N w) : SeqV (F.inRound l) n P g lb encs V Kp S Sp N w := h
/-- The record, behind a round that ended by a jump, or none. -/
def recOf (r : Loop) (j : Option Code) : Loop := { r with state := if j.isNone then .ready else .done, pending := j }
theorem recOf_none {r : Loop} (h1 : r.state = .ready) (h2 : r.pending = none) : recOf r none = r := by
  obtain ⟨st, pe, _, _, _, _, _, _⟩ := r
  simp only at h1 h2
  subst h1 h2
  rfl
/-- A jump's way out of a round, and what holds there. -/
def leftBy {α : Type} (B : Nat) (Kp : World → World → Prop) (I : List α → World → Prop) (Ix : Code → List α → World → Prop) (xs : List α) (W W' : World) : Option Code → Prop
  | none => I xs W' ∧ Kp W W'
  | some c => Ix c xs W'
/-- One round, from yield's call on. -/
theorem rv_round {α : Type} {F : Fence} {m : Nat} {P : Program} {l B : Nat} (hB : B ≤ l) {r : Loop} (hst : r.state = .ready) (hfn : F.fn r.fn) {args : Array Value} (hps : args.size = r.params.size)
    {Kp : World → World → Prop} (hKt : ∀ {A B C : World}, Kp A B → Kp B C → Kp A C) (hKb : ∀ (W : World) (l : Nat) (o o' : Obj), B ≤ l → W.heap[l]? = some o → o.isCells = false → o.isWalk = false → Kp W (W.putObj l o'))
    {I : List α → World → Prop} {Ix : Code → List α → World → Prop} (hI : OwnFrom B I) (hIx : ∀ c, OwnFrom B (Ix c)) {Ax : Act → World → Prop} (hAx : ∀ a', OwnFrom B (fun (_ : Unit) W => Ax a' W))
    {pre ys : List α} {W : World} (hl : W.heap[l]? = some (.loop r))
    (hassign : ∀ K : Act → World → Prop, (∀ a' W', KeepsFrom B W W' → Kp W W' → I pre W' → Ax a' W' → K a' W') →
      r.assign.wpIn (F.inRound l) m P (Exit.then K (fun _ _ _ => False)) { tmps := (r.params.zip args).foldl (fun t (p, v) => t.setIfInBounds p v) r.tmps, defers := [] } W)
    (hbody : ∀ a' W', (∃ r', W'.heap[l]? = some (.loop r')) → I pre W' → Ax a' W' → r.body.wpIn (F.inRound l) m P (ownPostG B Kp I Ix ys W') a' W') :
    YieldAt F m P l args W fun e W' => ∃ j : Option Code, e = .returned (.bool j.isNone) ∧ W'.heap[l]? = some (.loop (recOf r j)) ∧ (∀ k o, B ≤ k → k ≠ l → W.heap[k]? = some o → o.isCells = false → W'.heap[k]? = some o) ∧ leftBy B Kp I Ix ys W W' j := by
  refine ⟨_, _, _, _, run_yield hl hps, roundIn_of_wpIn hfn (hassign _ fun a' Wa kf kp hi ha => ?_)⟩
  have hla := kf.same l _ hB hl rfl
  have hlt := (Array.getElem?_eq_some_iff.1 hla).1
  refine ⟨_, run_beginRound hla hst, ?_⟩
  generalize hWb : Wa.putObj l (.loop { r with state := .busy }) = Wb
  have hlb : Wb.heap[l]? = some (.loop { r with state := .busy }) := by rw [← hWb]; exact World.putObj_heap_same hlt
  have kb : Kp W Wb := by rw [← hWb]; exact hKt kp (hKb _ _ _ _ hB hla rfl rfl)
  have hib : I pre Wb := by rw [← hWb]; exact hI.putObj _ hi hB hla rfl
  have hab : Ax a' Wb := by rw [← hWb]; exact (hAx a').putObj (s := ()) _ ha hB hla rfl
  have hoth : ∀ k o, B ≤ k → k ≠ l → W.heap[k]? = some o → o.isCells = false → Wb.heap[k]? = some o := fun k o h1 h2 h3 h4 => by
    rw [← hWb]; exact (World.putObj_heap_other h2).trans (kf.same k o h1 h3 h4)
  clear kf kp hi ha hl hla hlt hWb
  have close : ∀ (j : Option Code) (W3 : World), KeepsFrom B Wb W3 → (∀ W4, Kp W3 W4 → W4 = W3.putObj l (.loop (recOf r j)) → leftBy B Kp I Ix ys W W4 j) →
      ∃ v w', (Instr.endRound l j).run P W3 = .ok v w' ∧ ∃ i : Option Code, Ending.returned v = .returned (.bool i.isNone) ∧ w'.heap[l]? = some (.loop (recOf r i)) ∧ (∀ k o, B ≤ k → k ≠ l → W.heap[k]? = some o → o.isCells = false → w'.heap[k]? = some o) ∧ leftBy B Kp I Ix ys W w' i := by
    intro j W3 k3 hleft
    have hl3 := k3.same l _ hB hlb rfl
    have hr := run_endRound (P := P) j hl3
    refine ⟨_, _, hr, j, rfl, World.putObj_heap_same (Array.getElem?_eq_some_iff.1 hl3).1, fun k o h1 h2 h3 h4 => (World.putObj_heap_other h2).trans (k3.same k o h1 (hoth k o h1 h2 h3 h4) h4), hleft _ (hKb _ _ _ _ hB hl3 rfl rfl) rfl⟩
  refine wpIn_mono (hbody a' Wb ⟨_, hlb⟩ hib hab) ?_
  intro e a3 W3 h
  have put : ∀ (c : Code), KeepsFrom B Wb W3 → Ix c ys W3 → ∀ W4, Kp W3 W4 → W4 = W3.putObj l (.loop (recOf r (some c))) → leftBy B Kp I Ix ys W W4 (some c) := by
    rintro c k3 hx W4 _ rfl
    exact (hIx c).putObj _ hx hB (k3.same l _ hB hlb rfl) rfl
  cases e with
  | normal =>
    obtain ⟨k3, p3, i3⟩ := h
    exact close none W3 k3 (by rintro W4 h4 rfl; exact ⟨hI.putObj _ i3 hB (k3.same l _ hB hlb rfl) rfl, hKt (hKt kb p3) h4⟩)
  | ret => exact close (some .ret) W3 h.1 (put _ h.1 h.2)
  | exit id => exact close (some (.exit id)) W3 h.1 (put _ h.1 h.2)
  | goto t => exact close (some (.goto t)) W3 h.1 (put _ h.1 h.2)
  | panic _ => exact h.elim
  | outgrown => exact h.elim
/-- What the iterator's call leaves, the record and what else is no cells beside the invariant. -/
theorem rv_run {α : Type} {F : Fence} {n : Nat} {P : Program} {l B : Nat} {w W1 : World} (hB : B ≤ l) (hb : Bl w W1) (hlt1 : B ≤ W1.heap.size) {r : Loop} (hst : r.state = .ready) (hpe : r.pending = none) (hfn : F.fn r.fn)
    {gf : Nat} {lb : Array Value} {encs : α → Array Value} {V : α → World → World → Prop} {Kp : World → World → Prop} {S Sp : List α → Prop} {N : Nat} (hseq : SeqV F n P gf lb encs V Kp S Sp N w) (hV : ∀ x A B, V x A B → Bl A B)
    (hps : ∀ x, (encs x).size = r.params.size)
    (hKt : ∀ {A B C : World}, Kp A B → Kp B C → Kp A C) (hKb : ∀ (W : World) (l : Nat) (o o' : Obj), B ≤ l → W.heap[l]? = some o → o.isCells = false → o.isWalk = false → Kp W (W.putObj l o'))
    {I : List α → World → Prop} {Ix : Code → List α → World → Prop} (hI : OwnFrom B I) (hIx : ∀ c, OwnFrom B (Ix c)) {Ax : α → Act → World → Prop} (hAx : ∀ x a', OwnFrom B (fun (_ : Unit) W => Ax x a' W))
    (hl : W1.heap[l]? = some (.loop r)) (h0 : I [] W1) (D : Nat) (od : Obj) (hD : B ≤ D) (hDl : D ≠ l) (hod : W1.heap[D]? = some od ∨ W1.heap.size ≤ D) (hoc : od.isCells = false) (how : od.isWalk = false)
    (hassign : ∀ (pre : List α) (x : α) (W0 W : World) (K : Act → World → Prop), I pre W0 → V x W0 W → I pre W → (∀ a' W', KeepsFrom B W W' → Kp W W' → I pre W' → Ax x a' W' → K a' W') →
      r.assign.wpIn (F.inRound l) (n - 1) P (Exit.then K (fun _ _ _ => False)) { tmps := (r.params.zip (encs x)).foldl (fun t (p, v) => t.setIfInBounds p v) r.tmps, defers := [] } W)
    (hbody : ∀ (pre : List α) (x : α) (a' : Act) (W : World), (∃ r', W.heap[l]? = some (.loop r')) → I pre W → Ax x a' W → pre.length < N → r.body.wpIn (F.inRound l) (n - 1) P (ownPostG B Kp I Ix (pre ++ [x]) W) a' W) :
    CallsIn F n P gf (#[.func (.yield l) #[] #[]] ++ lb) W1 fun e W' => (∃ v, e = .returned v) ∧ ((∃ xs, S xs ∧ I xs W' ∧ W'.heap[l]? = some (.loop r) ∧ (W1.heap[D]? = some od → W'.heap[D]? = some od)) ∨ ∃ pre c, Sp pre ∧ Ix c pre W' ∧ W'.heap[l]? = some (.loop (recOf r (some c))) ∧ (W1.heap[D]? = some od → W'.heap[D]? = some od)) := by
  have keep : ∀ {A C : World} {row : Option Nat}, A.grownBy C row → (∀ q, row = some q → W1.heap.size ≤ q ∧ ∃ o : Obj, A.heap[q]? = some o ∧ o.isWalk = true) → ∀ (k : Nat) (o : Obj), A.heap[k]? = some o → o.isWalk = false → C.heap[k]? = some o := by
    intro A C row hg hr k o hk ho
    refine (hg.block k (Array.getElem?_eq_some_iff.1 hk).1 (fun e => ?_)).trans hk
    obtain ⟨_, o', ho', hw⟩ := hr k e.symm
    rw [hk] at ho'
    cases ho'
    rw [ho] at hw
    cases hw
  have own : ∀ {A : World} {row : Option Nat}, (∀ q, row = some q → W1.heap.size ≤ q ∧ ∃ o : Obj, A.heap[q]? = some o ∧ o.isWalk = true) → ∀ q, row = some q → B ≤ q ∧ ∃ o : Obj, A.heap[q]? = some o ∧ o.isCells = false := by
    intro A row hr q e
    obtain ⟨h1, o, ho, hw⟩ := hr q e
    exact ⟨Nat.le_trans hlt1 h1, o, ho, Obj.not_cells_of_walk hw⟩
  refine (hseq l (fun pre W => I pre W ∧ W.heap[l]? = some (.loop r) ∧ (W1.heap[D]? = some od → W.heap[D]? = some od)) (fun pre W => ∃ c, Ix c pre W ∧ W.heap[l]? = some (.loop (recOf r (some c))) ∧ (W1.heap[D]? = some od → W.heap[D]? = some od)) W1 hb
    (fun s A C row hs hg hr => ⟨hI s A C row hs.1 hg (own hr), keep hg hr _ _ hs.2.1 rfl, fun h => keep hg hr _ _ (hs.2.2 h) how⟩)
    (fun s A C row hs hg hr => by obtain ⟨c, h1, h2, h3⟩ := hs; exact ⟨c, hIx c s A C row h1 hg (own hr), keep hg hr _ _ h2 rfl, fun h => keep hg hr _ _ (h3 h) how⟩) ?_ ⟨h0, hl, id⟩).mono ?_
  · rintro pre x W0 W ⟨i0, l0, d0⟩ hv hlen
    have hbv := hV x W0 W hv
    have hlW := (Below.block hbv l (Array.getElem?_eq_some_iff.1 l0).1).trans l0
    refine ((rv_round (Kp := Kp) (ys := pre ++ [x]) hB hst hfn (hps x) hKt hKb hI hIx (hAx x) hlW (fun K hK => hassign pre x W0 W K i0 hv (own_later hI hbv i0) hK) (fun a' W' hr hi ha => hbody pre x a' W' hr hi ha hlen)) : YieldAt F (n - 1) P l (encs x) W _).mono ?_
    rintro e W' ⟨j, rfl, hl', ho, hj⟩
    have hd' : W1.heap[D]? = some od → W'.heap[D]? = some od := fun h => ho D od hD hDl ((Below.block hbv D (Array.getElem?_eq_some_iff.1 (d0 h)).1).trans (d0 h)) hoc
    cases j with
    | none => exact .inl ⟨rfl, ⟨hj.1, by rw [recOf_none hst hpe] at hl'; exact hl', hd'⟩, hj.2⟩
    | some c => exact .inr ⟨rfl, c, hj, hl', hd'⟩
  · rintro e W' ⟨he, (⟨xs, h1, h2, h3, h4⟩ | ⟨pre, h1, c, h2, h3, h4⟩)⟩
    · exact ⟨he, .inl ⟨xs, h1, h2, h3, h4⟩⟩
    · exact ⟨he, .inr ⟨pre, c, h1, h2, h3, h4⟩⟩
/-- The loop, outside of a round. -/
theorem rangeV {α : Type} {F : Fence} {n : Nat} {P : Program} {g : Operand} {ps : Array Tmp} {assign body : Code} {Q : Exit → Act → World → Prop} {a : Act} {w : World}
    (hro : F.round = none) (h1 : 1 ≤ n) {gf : Nat} {lb : Array Value} (hg : a.eval g = .func (.func gf) #[] lb) (hFg : F.fn gf) (eg : ∀ args w, (callFunc gf args).run P w = .ok (.enter gf args) w)
    {encs : α → Array Value} {V : α → World → World → Prop} {Kp : World → World → Prop} {S Sp : List α → Prop} {N : Nat} (hseq : SeqV F (n - 1) P gf lb encs V Kp S Sp N w) (hV : ∀ x A B, V x A B → Bl A B)
    (hKt : ∀ {A B C : World}, Kp A B → Kp B C → Kp A C) (hKb : ∀ (W : World) (l : Nat) (o o' : Obj), w.heap.size ≤ l → W.heap[l]? = some o → o.isCells = false → o.isWalk = false → Kp W (W.putObj l o')) (hps : ∀ x, (encs x).size = ps.size)
    (I : List α → World → Prop) (Ix : Code → List α → World → Prop) (hI : OwnFrom w.heap.size I) (hIx : ∀ c, OwnFrom w.heap.size (Ix c)) (h0 : I [] w) (Ax : Act → α → Act → World → Prop) (hAx : ∀ x a', OwnFrom w.heap.size (fun (_ : Unit) W => Ax a x a' W))
    (hassign : ∀ (l : Nat) (pre : List α) (x : α) (W0 W : World) (K : Act → World → Prop), I pre W0 → V x W0 W → I pre W → (∀ a' W', KeepsFrom w.heap.size W W' → Kp W W' → I pre W' → Ax a x a' W' → K a' W') →
      assign.wpIn (F.inRound l) (n - 1 - 1) P (Exit.then K (fun _ _ _ => False)) { tmps := (ps.zip (encs x)).foldl (fun t (p, v) => t.setIfInBounds p v) a.tmps, defers := [] } W)
    (hbody : ∀ (l : Nat) (pre : List α) (x : α) (a' : Act) (W : World), w.heap.size ≤ l → (∃ r, W.heap[l]? = some (.loop r)) → I pre W → Ax a x a' W → pre.length < N → body.wpIn (F.inRound l) (n - 1 - 1) P (ownPostG w.heap.size Kp I Ix (pre ++ [x]) W) a' W)
    (hdone : ∀ (D : Nat) (xs : List α) (W : World), w.heap.size ≤ D → S xs → I xs W → W.heap[D]? = some (.deferred (some [])) → Q .normal { a with defers := { target := .collected D, args := #[] } :: a.defers } W)
    (hstop : ∀ (D : Nat) (c : Code) (pre : List α) (W : World), w.heap.size ≤ D → Sp pre → Ix c pre W → W.heap[D]? = some (.deferred (some [])) → c.wpIn F n P Q { a with defers := { target := .collected D, args := #[] } :: a.defers } W) :
    (Code.rangeFunc g ps assign body).wpIn F n P Q a w := by
  refine wpIn_rangeFunc fun fn hfn => ?_
  rw [hro]
  have he := run_enterLoop_outer (P := P) (w := w) fn a.tmps ps assign body
  generalize hr : ({ state := .ready, pending := none, fn, tmps := a.tmps, params := ps, assign, body, defers := w.heap.size } : Loop) = r at he
  obtain ⟨e1, e2, e3, e4, e5, e6, e7⟩ : r.state = .ready ∧ r.pending = none ∧ r.fn = fn ∧ r.tmps = a.tmps ∧ r.params = ps ∧ r.assign = assign ∧ r.body = body := by rw [← hr]; exact ⟨rfl, rfl, rfl, rfl, rfl, rfl, rfl⟩
  clear hr
  generalize hW : (w.alloc (.deferred (some []))).alloc (.loop r) = W1 at he
  have hb : Bl w W1 := by rw [← hW]; exact ((Bl.refl w).alloc _).alloc _
  have hl : W1.heap[w.heap.size + 1]? = some (.loop r) := by
    rw [← hW]; have := World.alloc_heap_new (w.alloc (.deferred (some []))) (.loop r); rwa [World.size_alloc] at this
  have hd : W1.heap[w.heap.size]? = some (.deferred (some [])) := by rw [← hW]; exact (Below.heap_alloc _ _ _ (by simp)).trans (World.alloc_heap_new w _)
  refine ⟨_, _, _, { target := .fn (.func gf) lb, args := #[.func (.yield (w.heap.size + 1)) #[] #[]] }, W1, gf, #[.func (.yield (w.heap.size + 1)) #[] #[]] ++ lb, W1, he, ?_, ?_, ?_, fun _ => h1, ?_⟩
  · simp only [resolve, hg]
    simp [go_sem]
  · intro f' hf'
    simp [Target.leads] at hf'
    subst hf'
    exact hFg
  · simp [invoke, go_sem, eg]
  · refine (rv_run (Kp := Kp) (Ax := Ax a) (Nat.le_succ _) hb hb.size e1 e2 (e3 ▸ hfn) hseq hV (by rw [e5]; exact hps) hKt hKb hI hIx hAx hl (own_later hI hb h0) w.heap.size (.deferred (some [])) (Nat.le_refl _) (by omega) (.inl hd) rfl rfl
      (by rw [e4, e5, e6]; exact fun pre x W0 W K => hassign _ pre x W0 W K) (by rw [e7]; exact fun pre x a' W h => hbody _ pre x a' W (Nat.le_succ _) h)).mono ?_
    rintro e W' ⟨⟨v, rfl⟩, (⟨xs, h1, h2, h3, h4⟩ | ⟨pre, c, h1, h2, h3, h4⟩)⟩
    · have hq := run_endLoop (P := P) h3 (by rw [e1]; decide)
      rw [e2] at hq
      exact ⟨none, _, hq, hdone _ xs _ (Nat.le_refl _) h1 (hI.putObj _ h2 (Nat.le_succ _) h3 rfl) ((World.putObj_heap_other (by omega)).trans (h4 hd))⟩
    · have hq := run_endLoop (P := P) h3 (by simp [recOf])
      exact ⟨some c, _, hq, hstop _ c pre _ (Nat.le_refl _) h1 ((hIx c).putObj _ h2 (Nat.le_succ _) h3 rfl) ((World.putObj_heap_other (by omega)).trans (h4 hd))⟩
/-- The loop, within a round of another one. -/
theorem rangeVin {α : Type} {F : Fence} {n : Nat} {P : Program} {l₀ : Nat} {r₀ : Loop} {g : Operand} {ps : Array Tmp} {assign body : Code} {Q : Exit → Act → World → Prop} {a : Act} {w : World}
    (hro : F.round = some l₀) (hl₀ : w.heap[l₀]? = some (.loop r₀)) (h1 : 1 ≤ n) {gf : Nat} {lb : Array Value} (hg : a.eval g = .func (.func gf) #[] lb) (hFg : F.fn gf) (eg : ∀ args w, (callFunc gf args).run P w = .ok (.enter gf args) w)
    {encs : α → Array Value} {V : α → World → World → Prop} {Kp : World → World → Prop} {S Sp : List α → Prop} {N : Nat} (hseq : SeqV F (n - 1) P gf lb encs V Kp S Sp N w) (hV : ∀ x A B, V x A B → Bl A B)
    (hKt : ∀ {A B C : World}, Kp A B → Kp B C → Kp A C) (hKb : ∀ (W : World) (l : Nat) (o o' : Obj), w.heap.size ≤ l → W.heap[l]? = some o → o.isCells = false → o.isWalk = false → Kp W (W.putObj l o')) (hps : ∀ x, (encs x).size = ps.size)
    (I : List α → World → Prop) (Ix : Code → List α → World → Prop) (hI : OwnFrom w.heap.size I) (hIx : ∀ c, OwnFrom w.heap.size (Ix c)) (h0 : I [] w) (Ax : Act → α → Act → World → Prop) (hAx : ∀ x a', OwnFrom w.heap.size (fun (_ : Unit) W => Ax a x a' W))
    (hassign : ∀ (l : Nat) (pre : List α) (x : α) (W0 W : World) (K : Act → World → Prop), I pre W0 → V x W0 W → I pre W → (∀ a' W', KeepsFrom w.heap.size W W' → Kp W W' → I pre W' → Ax a x a' W' → K a' W') →
      assign.wpIn (F.inRound l) (n - 1 - 1) P (Exit.then K (fun _ _ _ => False)) { tmps := (ps.zip (encs x)).foldl (fun t (p, v) => t.setIfInBounds p v) a.tmps, defers := [] } W)
    (hbody : ∀ (l : Nat) (pre : List α) (x : α) (a' : Act) (W : World), w.heap.size ≤ l → (∃ r, W.heap[l]? = some (.loop r)) → I pre W → Ax a x a' W → pre.length < N → body.wpIn (F.inRound l) (n - 1 - 1) P (ownPostG w.heap.size Kp I Ix (pre ++ [x]) W) a' W)
    (hdone : ∀ (xs : List α) (W : World), S xs → I xs W → Q .normal a W)
    (hstop : ∀ (c : Code) (pre : List α) (W : World), Sp pre → Ix c pre W → c.wpIn F n P Q a W) :
    (Code.rangeFunc g ps assign body).wpIn F n P Q a w := by
  refine wpIn_rangeFunc fun fn hfn => ?_
  rw [hro]
  have he := run_enterLoop_inner (P := P) hl₀ fn a.tmps ps assign body
  generalize hr : ({ state := .ready, pending := none, fn, tmps := a.tmps, params := ps, assign, body, defers := r₀.defers } : Loop) = r at he
  obtain ⟨e1, e2, e3, e4, e5, e6, e7⟩ : r.state = .ready ∧ r.pending = none ∧ r.fn = fn ∧ r.tmps = a.tmps ∧ r.params = ps ∧ r.assign = assign ∧ r.body = body := by rw [← hr]; exact ⟨rfl, rfl, rfl, rfl, rfl, rfl, rfl⟩
  clear hr
  generalize hW : w.alloc (.loop r) = W1 at he
  have hb : Bl w W1 := by rw [← hW]; exact (Bl.refl w).alloc _
  have hl : W1.heap[w.heap.size]? = some (.loop r) := by rw [← hW]; exact World.alloc_heap_new w _
  have hs1 : W1.heap.size = w.heap.size + 1 := by rw [← hW]; simp
  refine ⟨_, _, _, { target := .fn (.func gf) lb, args := #[.func (.yield w.heap.size) #[] #[]] }, W1, gf, #[.func (.yield w.heap.size) #[] #[]] ++ lb, W1, he, ?_, ?_, ?_, fun _ => h1, ?_⟩
  · simp only [resolve, hg]
    simp [go_sem]
  · intro f' hf'
    simp [Target.leads] at hf'
    subst hf'
    exact hFg
  · simp [invoke, go_sem, eg]
  · refine (rv_run (Kp := Kp) (Ax := Ax a) (Nat.le_refl _) hb hb.size e1 e2 (e3 ▸ hfn) hseq hV (by rw [e5]; exact hps) hKt hKb hI hIx hAx hl (own_later hI hb h0) (w.heap.size + 1) (.deferred (some [])) (Nat.le_succ _) (by omega) (.inr (by omega)) rfl rfl
      (by rw [e4, e5, e6]; exact fun pre x W0 W K => hassign _ pre x W0 W K) (by rw [e7]; exact fun pre x a' W h => hbody _ pre x a' W (Nat.le_refl _) h)).mono ?_
    rintro e W' ⟨⟨v, rfl⟩, (⟨xs, h1, h2, h3, _⟩ | ⟨pre, c, h1, h2, h3, _⟩)⟩
    · have hq := run_endLoop (P := P) h3 (by rw [e1]; decide)
      rw [e2] at hq
      exact ⟨none, _, hq, hdone xs _ h1 (hI.putObj _ h2 (Nat.le_refl _) h3 rfl)⟩
    · have hq := run_endLoop (P := P) h3 (by simp [recOf])
      exact ⟨some c, _, hq, hstop c pre _ h1 ((hIx c).putObj _ h2 (Nat.le_refl _) h3 rfl)⟩
/-- A row speaks of cells alone. -/
theorem rw_own {α : Type} {s : Nat} {c : α → List Value} {X Y : World} {v : Value} {xs : List α} {row : Option Nat} (h : Rw s c X v xs) (hg : X.grownBy Y row) (hr : ∀ r, row = some r → ∃ o : Obj, X.heap[r]? = some o ∧ o.isCells = false) : Rw s c Y v xs := by
  rcases h with h | ⟨b, o, cap, rfl, hc, hb, hx⟩
  · exact .inl h
  · exact .inr ⟨b, o, cap, rfl, hc, Nat.lt_of_lt_of_le hb hg.size, fun j x hj k u hu => cell_kept (hx j x hj k u hu) hg hr⟩
/-- A row whose block an append to another one, and a store into a variable, leave as it was. -/
theorem Rw.beside {α : Type} {s : Nat} {c : α → List Value} {u w5 : World} {B : Nat} {v v' : Value} {xs : List α} {row : Option Nat} (h : Rw s c u v xs) (hg : u.grownBy w5 row) (hne : ∀ g, v.ownBlock = some g → row ≠ some g ∧ g ≠ B) : Rw s c (w5.setCell ⟨B, 0, none⟩ v') v xs := by
  rcases h with h | ⟨b, o, cap, rfl, hc, hb, hx⟩
  · exact .inl h
  · have h1 := hne b rfl
    have hk : (w5.setCell ⟨B, 0, none⟩ v').heap[b]? = u.heap[b]? := (Below.heap_setCell _ _ _ b (by show b ≠ B; exact h1.2)).trans (hg.block b hb (fun e => h1.1 e.symm))
    exact .inr ⟨b, o, cap, rfl, hc, by have := hg.size; simp; omega, fun j x hj k v hv => (World.cell?_of_block (a := ⟨b, o + j * s + k, none⟩) hk).trans (hx j x hj k v hv)⟩
theorem own_span {β : Type} {B lo hi : Nat} {w₀ : World} (hh : hi ≤ B) (hB : B ≤ w₀.heap.size) : OwnFrom B (fun (_ : β) W => Span lo hi w₀ W) := by
  intro _ X Y row hs hg hr
  refine ⟨Nat.le_trans hs.size hg.size, fun k h1 h2 => (hg.block k (by have := hs.size; omega) (fun e => ?_)).trans (hs.block k h1 h2)⟩
  have := (hr k e.symm).1
  omega
theorem own_size {β : Type} (B n : Nat) : OwnFrom B (fun (_ : β) (W : World) => n ≤ W.heap.size) := fun _ _ _ _ h hg _ => Nat.le_trans h hg.size
theorem own_rw {α β : Type} (B s : Nat) (c : α → List Value) (v : Value) (xs : List α) : OwnFrom B (fun (_ : β) W => Rw s c W v xs) := fun _ _ _ _ h hg hr => rw_own h hg (fun r e => (hr r e).2)
end Go.Proofs.YtljmggemdkfbiaaGreat
