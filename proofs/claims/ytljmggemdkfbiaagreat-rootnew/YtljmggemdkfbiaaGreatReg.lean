/- A region that draws its order, inside a fence: by what holds once each operation has come up, whatever their order, over any frame; its operations, one by one. -/
import Derived.Test.YtljmggemdkfbiaaGreatPhaseIn
namespace Go.Proofs.YtljmggemdkfbiaaGreat
open Go.RowKit
set_option linter.unusedSimpArgs false
set_option linter.unusedVariables false

theorem eval_put_same {a : Act} {d : Nat} {v : Value} (h : d < a.tmps.size) : (a.put (some d) v).eval (.tmp d) = v := by
  simp [Act.put, Act.eval, Array.getD, h]
theorem eval_put_other {a : Act} {d s : Nat} {v : Value} (h : s ≠ d) : (a.put (some d) v).eval (.tmp s) = a.eval (.tmp s) := by
  simp only [Act.put, Act.eval, Array.getD_eq_getD_getElem?]
  rw [Array.getElem?_setIfInBounds_ne (Ne.symm h)]
theorem size_put {a : Act} {d : Option Nat} {v : Value} : (a.put d v).tmps.size = a.tmps.size := by cases d <;> simp [Act.put]
theorem defers_put {a : Act} {d : Option Nat} {v : Value} : (a.put d v).defers = a.defers := by cases d <;> simp [Act.put]

/-- How many are yet to come. -/
def leftN (l : List Bool) : Nat := (l.filter (· == false)).length
theorem leftN_set : ∀ (l : List Bool) (i : Nat), l[i]? = some false → leftN l = leftN (l.set i true) + 1
  | [], i, h => by simp at h
  | b :: l, 0, h => by simp at h; subst h; simp [leftN]
  | b :: l, i + 1, h => by
    have := leftN_set l i (by simpa using h)
    cases b <;> simp [leftN] at this ⊢ <;> omega
theorem leftN_zero : ∀ (l : List Bool), leftN l = 0 → ∀ i, i < l.length → l[i]? = some true
  | [], _, i, h => by simp at h
  | b :: l, h0, i, h => by
    cases b with
    | false => simp [leftN] at h0
    | true =>
      cases i with
      | zero => simp
      | succ i =>
        have h' : leftN l = 0 := by simpa [leftN] using h0
        have := leftN_zero l h' i (by simpa using h)
        simpa using this
theorem leftN_pos : ∀ (l : List Bool), 0 < leftN l → ∃ i : Nat, l[i]? = some false ∧ ∀ j : Nat, j < i → l[j]? = some true
  | [], h => by simp [leftN] at h
  | b :: l, h => by
    cases b with
    | false => exact ⟨0, by simp, fun j hj => by omega⟩
    | true =>
      obtain ⟨i, h1, h2⟩ := leftN_pos l (by simpa [leftN] using h)
      exact ⟨i + 1, by simpa using h1, fun j hj => by
        cases j with
        | zero => simp
        | succ j => simpa using h2 j (by omega)⟩
theorem leftN_rep (n : Nat) : leftN (List.replicate n false) = n := by simp [leftN]

/-- I L: those of L have come up. -/
theorem region_facts {F : Fence} {n : Nat} {P : Program} {ops : Array Oper} {Q : Exit → Act → World → Prop} {a : Act} {w : World} {id : Nat} (hm : P.follows .mixedOrders = true)
    (hlow : ∀ (i : Nat) (o : Oper), ops[i]? = some o → ∀ e ∈ o.after, e.on < i) (I : (Nat → Bool) → Act → World → Prop) (h0 : I (fun _ => false) a w.drew)
    (step : ∀ (L : Nat → Bool) (act : Act) (u : World) (i : Nat) (o : Oper), I L act u → ops[i]? = some o → L i = false → (∀ e ∈ o.after, Region.binds .any e = true → L e.on = true) → wpOpIn F n P ops Q i (I fun j => L j || (j == i)) act u)
    (fin : ∀ L act u, I L act u → (∀ j, j < ops.size → L j = true) → Q .normal act u) : (Code.region id ops true).wpIn F n P Q a w := by
  refine wpIn_region_any hm ?_
  have main := wpAnyIn_phase (F := F) (n := n) (P := P) (md := .any) (ops := ops) (Q := Q) (fuel := 0)
    (fun k l act u => l.size = ops.size ∧ k = leftN l.toList ∧ I (fun j => l.getD j false) act u) ?fin ?live ?step ops.size (Array.replicate ops.size false) a w.drew ⟨by simp, by simp [leftN_rep], ?start⟩
  case start =>
    have : (fun j => (Array.replicate ops.size false).getD j false) = (fun _ : Nat => false) := by
      funext j; simp [Array.getD]
    rw [this]; exact h0
  case fin =>
    rintro l act u ⟨hs, hk, hI⟩
    have hall := leftN_zero l.toList hk.symm
    have hl : ∀ j, j < ops.size → l.getD j false = true := fun j hj => by
      have := hall j (by simpa [hs] using hj)
      have h2 : l[j]? = some true := by simpa using this
      rw [Array.getD_eq_getD_getElem?, h2]; rfl
    refine wpAnyIn_done ?_ (fin _ act u hI hl) 0
    rw [List.eq_nil_iff_forall_not_mem]
    intro i hi
    obtain ⟨h1, o, ho, _⟩ := mem_ready.1 hi
    have hlt := (Array.getElem?_eq_some_iff.1 ho).1
    have := hl i hlt
    rw [Array.getD_eq_getD_getElem?] at this h1
    cases e : l[i]? <;> simp_all
  case live =>
    rintro k l act u ⟨hs, hk, hI⟩ hr
    obtain ⟨i, h1, h2⟩ := leftN_pos l.toList (by omega)
    have hi : i < l.size := by have := (List.getElem?_eq_some_iff.1 h1).1; simpa using this
    rw [List.eq_nil_iff_forall_not_mem] at hr
    refine hr i (mem_ready.2 ⟨?_, ops[i]'(by omega), Array.getElem?_eq_getElem _, fun e he _ => ?_⟩)
    · have h3 : l[i]? = some false := by simpa using h1
      rw [Array.getD_eq_getD_getElem?, h3]; rfl
    · have h4 := hlow i _ (Array.getElem?_eq_getElem (by omega)) e he
      have h3 : l[e.on]? = some true := by simpa using h2 _ h4
      rw [Array.getD_eq_getD_getElem?, h3]; rfl
  case step =>
    rintro k l act u i ⟨hs, hk, hI⟩ hi hall
    have hlt := getD_lt' hi
    have hli : l[i]? = some false := by
      rw [Array.getD_eq_getD_getElem?] at hi
      rw [Array.getElem?_eq_getElem hlt] at hi ⊢
      simpa using hi
    have hw := step _ act u i (ops[i]'(by omega)) hI (Array.getElem?_eq_getElem _) (by show l.getD i false = false; rw [Array.getD_eq_getD_getElem?, hli]; rfl) (fun e he hb => hall e ⟨_, Array.getElem?_eq_getElem _, he⟩ hb)
    refine wpOpIn_mono (fun a' w' h' => ⟨by simp [hs], ?_, ?_⟩) hw
    · have := leftN_set l.toList i (by simpa using hli)
      rw [Array.toList_setIfInBounds]
      omega
    · have : (fun j => (l.setIfInBounds i true).getD j false) = (fun j => l.getD j false || (j == i)) := by
        funext j
        by_cases hj : j = i
        · subst hj
          simp [Array.getD, hlt]
        · rw [Array.getD_eq_getD_getElem?, Array.getElem?_setIfInBounds_ne (fun e => hj e.symm), ← Array.getD_eq_getD_getElem?]
          simp [hj]
      rw [this]; exact h'
  rw [Nat.zero_add] at main
  exact main
/-- Each waits for earlier ones alone. -/
def lowB (ops : Array Oper) : Bool := (List.range ops.size).all fun i => match ops[i]? with
  | some o => o.after.all fun e => decide (e.on < i)
  | none => true
theorem lowB_low {ops : Array Oper} (h : lowB ops = true) : ∀ (i : Nat) (o : Oper), ops[i]? = some o → ∀ e ∈ o.after, e.on < i := by
  intro i o ho e he
  have h1 := List.all_eq_true.1 h i (by simpa using (Array.getElem?_eq_some_iff.1 ho).1)
  rw [ho] at h1
  simp only [Array.all_eq_true_iff_forall_mem] at h1
  exact of_decide_eq_true (h1 e he)
/-- An operation that is no part of a guarded stretch. -/
theorem step_wp {F : Fence} {n : Nat} {P : Program} {ops : Array Oper} {Q : Exit → Act → World → Prop} {i : Nat} {o : Oper} {K : Act → World → Prop} {a : Act} {w : World} (ho : ops[i]? = some o) (hg : o.guard = none) (h : Oper.wpIn F n P o a w K Q) : wpOpIn F n P ops Q i K a w := by
  unfold wpOpIn
  rw [ho]
  show if _ then _ else _
  rw [if_pos (by simp [Region.wanted, hg])]
  exact h
theorem plain_wp {F : Fence} {n : Nat} {P : Program} {o : Oper} {a : Act} {w w' : World} {K : Act → World → Prop} {Q : Exit → Act → World → Prop} {v : Value} (hd : ∀ c, o.op ≠ .defer c) (ha : ∀ f, o.about P w a.eval = some f → F.fn f)
    (hr : (execOp a.eval o).run P w = .ok (.value v) w') (hK : K (a.put o.dst v) w') : Oper.wpIn F n P o a w K Q := by
  unfold Oper.wpIn
  refine ⟨ha, ?_⟩
  rw [Oper.semAt_plain F _ _ hd, hr]
  exact hK
theorem skip_wp {F : Fence} {n : Nat} {P : Program} {o : Oper} {a : Act} {w w' : World} {K : Act → World → Prop} {Q : Exit → Act → World → Prop} (hd : ∀ c, o.op ≠ .defer c) (ha : ∀ f, o.about P w a.eval = some f → F.fn f)
    (hr : (execOp a.eval o).run P w = .ok .skip w') (hK : K (a.put o.dst undef) w') : Oper.wpIn F n P o a w K Q := by
  unfold Oper.wpIn
  refine ⟨ha, ?_⟩
  rw [Oper.semAt_plain F _ _ hd, hr]
  exact hK
theorem move_wp {F : Fence} {n : Nat} {P : Program} {o : Oper} {a : Act} {w : World} {K : Act → World → Prop} {Q : Exit → Act → World → Prop} (x : Operand) (ho : o.op = .move x) (hK : K (a.put o.dst (a.eval x)) w) : Oper.wpIn F n P o a w K Q :=
  plain_wp (by rw [ho]; intro c h; cases h) (by simp [Oper.about, ho]) (by simp [execOp, ho]) hK
theorem load_wp {F : Fence} {n : Nat} {P : Program} {o : Oper} {a : Act} {w : World} {K : Act → World → Prop} {Q : Exit → Act → World → Prop} (t : TypeId) (x : Operand) (ho : o.op = .load t x) {v : Value} (hr : (Instr.loadAt t (a.eval x)).run P w = .ok v w) (hK : K (a.put o.dst v) w) : Oper.wpIn F n P o a w K Q :=
  plain_wp (by rw [ho]; intro c h; cases h) (by simp [Oper.about, ho]) (by simp [execOp, ho, hr, Result.andThen]) hK
theorem store_wp {F : Fence} {n : Nat} {P : Program} {o : Oper} {a : Act} {w w' : World} {K : Act → World → Prop} {Q : Exit → Act → World → Prop} (t : TypeId) (x y : Operand) (ho : o.op = .store t x y) (hr : (Instr.storeAt t (a.eval x) (a.eval y)).run P w = .ok () w') (hK : K (a.put o.dst undef) w') : Oper.wpIn F n P o a w K Q :=
  skip_wp (by rw [ho]; intro c h; cases h) (by simp [Oper.about, ho]) (by simp [execOp, ho, hr, Result.andThen]) hK
theorem build_wp {F : Fence} {n : Nat} {P : Program} {o : Oper} {a : Act} {w w' : World} {K : Act → World → Prop} {Q : Exit → Act → World → Prop} (t : TypeId) (x : Operand) (ho : o.op = .buildSlice t 1 #[(0, x)]) {v : Value} (hr : (Instr.buildSlice t 1 #[(0, a.eval x)]).run P w = .ok v w') (hK : K (a.put o.dst v) w') : Oper.wpIn F n P o a w K Q :=
  plain_wp (by rw [ho]; intro c h; cases h) (by simp [Oper.about, ho]) (by simp [execOp, ho, hr, Result.andThen]) hK
theorem call2_wp {F : Fence} {n : Nat} {P : Program} {o : Oper} {a : Act} {w : World} {K : Act → World → Prop} {Q : Exit → Act → World → Prop} (f : Nat) (x y : Operand) (ts : Array TypeId) (ho : o.op = .call { callee := .value (.func f), args := #[x, y], argTypes := ts }) (hF : F.fn f) (h1 : F.depth.isSome = true → 1 ≤ n)
    (eg : ∀ args w, (callFunc f args).run P w = .ok (.enter f args) w) {R : Ending → World → Prop} (hc : CallsIn F (n - 1) P f #[a.eval x, a.eval y] w R) (hK : ∀ e w', R e w' → ∃ v, e = .returned v ∧ K (a.put o.dst v) w') : Oper.wpIn F n P o a w K Q := by
  have hr : ∀ ρ : Operand → Value, ρ (.func f) = .func (.func f) #[] #[] → (execOp ρ o).run P w = .ok (.enter f #[ρ x, ρ y]) w ∧ ∀ g, o.about P w ρ = some g → f = g := by
    intro ρ e
    refine ⟨by simp [execOp, ho, resolve, invoke, e, eg, Result.andThen, go_sem], fun g hg => ?_⟩
    simp [Oper.about, ho, resolve, e, Target.leads, go_sem] at hg
    exact hg
  unfold Oper.wpIn
  refine ⟨fun g hg => (hr a.eval rfl).2 g hg ▸ hF, ?_⟩
  rw [Oper.semAt_plain F _ _ (by rw [ho]; intro c h; cases h), (hr a.eval rfl).1, Oper.uponIn_enter]
  refine ⟨h1, hc.mono ?_⟩
  intro e w' h
  obtain ⟨v, rfl, h2⟩ := hK e w' h
  exact h2
end Go.Proofs.YtljmggemdkfbiaaGreat
