/- Contracts of tri's Root, of fractions (layer 7). Written by genTr.py. -/
import Derived.Test.YtbfdkahbnfpabaaGreatReg
import Derived.Test.YtbfdkahbnfpabaaGreatMa0
import Derived.Test.YtbfdkahbnfpabaaGreatG0
import Derived.Test.YtbfdkahbnfpabaaGreatMaDF
import Derived.Test.YtbfdkahbnfpabaaGreatMaEF
import Derived.Test.YtbfdkahbnfpabaaGreatFr6
/- A region that draws its order, over any frame, inside any fence: its operations read what is held, or lay blocks; one of them may store; some are pure: by one fact an operation, whatever their order. -/
namespace Go.Proofs.YtbfdkahbnfpabaaGreat
open Go.RowKit
set_option linter.unusedSimpArgs false
set_option linter.unusedVariables false

theorem evalC (a : Act) (v : Value) : a.eval (.const v) = v := rfl
theorem evalF (a : Act) (f : Nat) : a.eval (.func f) = .func (.func f) #[] #[] := rfl
theorem evalG (a : Act) (g : Nat) : a.eval (.global g) = .pointer (some ⟨g, 0, none⟩) := rfl
/-- A frame with the slots of a region's operations set. -/
def putL : List (Option Nat) → (Nat → Value) → Nat → Act → Act
  | [], _, _, a => a
  | d :: ds, vs, k, a => putL ds vs (k + 1) (a.put d (vs k))
theorem putL_size (ds : List (Option Nat)) (vs : Nat → Value) : ∀ k a, (putL ds vs k a).tmps.size = a.tmps.size := by
  induction ds with
  | nil => intro k a; rfl
  | cons d ds ih => intro k a; rw [putL, ih, size_put]
theorem putL_defers (ds : List (Option Nat)) (vs : Nat → Value) : ∀ k a, (putL ds vs k a).defers = a.defers := by
  induction ds with
  | nil => intro k a; rfl
  | cons d ds ih => intro k a; rw [putL, ih, defers_put]
theorem eval_put_ne {a : Act} {d : Option Nat} {s : Nat} {v : Value} (h : d ≠ some s) : (a.put d v).eval (.tmp s) = a.eval (.tmp s) := by
  cases d with
  | none => rfl
  | some d => exact eval_put_other (fun e => h (by rw [e]))
theorem putL_other (ds : List (Option Nat)) (vs : Nat → Value) (t : Nat) : ∀ k a, (∀ d ∈ ds, d ≠ some t) → (putL ds vs k a).eval (.tmp t) = a.eval (.tmp t) := by
  induction ds with
  | nil => intro k a _; rfl
  | cons d ds ih => intro k a h; rw [putL, ih _ _ (fun d hd => h d (List.mem_cons_of_mem _ hd)), eval_put_ne (h d List.mem_cons_self)]
/-- No slot is set twice. -/
def onceB : List (Option Nat) → Bool
  | [] => true
  | d :: ds => (d.isNone || ds.all (· != d)) && onceB ds
theorem putL_at (ds : List (Option Nat)) (vs : Nat → Value) (t : Nat) : ∀ (j : Nat) k a, onceB ds = true → ds[j]? = some (some t) → t < a.tmps.size → (putL ds vs k a).eval (.tmp t) = vs (k + j) := by
  induction ds with
  | nil => intro j k a _ h; simp at h
  | cons d ds ih =>
    intro j k a ho h ht
    simp only [onceB, Bool.and_eq_true] at ho
    cases j with
    | zero =>
      simp at h
      subst h
      rw [putL, putL_other, Nat.add_zero]
      · exact eval_put_same ht
      · intro d hd e
        subst e
        have := ho.1
        simp at this
        exact this _ hd rfl
    | succ j =>
      rw [putL, ih j (k + 1) _ ho.2 (by simpa using h) (by rw [size_put]; exact ht)]
      congr 1
      omega
theorem act_ext {a b : Act} (h1 : a.tmps.size = b.tmps.size) (h2 : a.defers = b.defers) (h3 : ∀ t, t < a.tmps.size → a.eval (.tmp t) = b.eval (.tmp t)) : a = b := by
  obtain ⟨ta, da⟩ := a
  obtain ⟨tb, db⟩ := b
  simp only at h1 h2
  subst h2
  congr 1
  refine Array.ext h1 fun t ha hb => ?_
  have := h3 t ha
  simpa [Act.eval, Array.getD, ha, hb] using this

/-- I L: those of L have come up. -/
theorem region_facts2 {F : Fence} {n : Nat} {P : Program} {ops : Array Oper} {Q : Exit → Act → World → Prop} {a : Act} {w : World} {id : Nat} (hm : P.follows .mixedOrders = true)
    (hlow : ∀ (i : Nat) (o : Oper), ops[i]? = some o → ∀ e ∈ o.after, Region.binds .any e = true → e.on < i) (I : (Nat → Bool) → Act → World → Prop) (h0 : I (fun _ => false) a w.drew)
    (step : ∀ (L : Nat → Bool) (act : Act) (u : World) (i : Nat) (o : Oper), I L act u → ops[i]? = some o → L i = false → (∀ e ∈ o.after, Region.binds .any e = true → L e.on = true) → wpOpIn F n P ops Q i (I fun j => L j || (j == i)) act u)
    (fin : ∀ L act u, I L act u → (∀ j, j < ops.size → L j = true) → Q .normal act u) : (Code.region id ops true).wpIn F n P Q a w := by
  refine wpIn_region_any hm ?_
  have main := wpAnyIn_phase (F := F) (n := n) (P := P) (md := .any) (ops := ops) (Q := Q) (fuel := 0)
    (fun k l act u => l.size = ops.size ∧ k = leftN l.toList ∧ I (fun j => l.getD j false) act u) ?fin ?live ?step ops.size (Array.replicate ops.size false) a w.drew ⟨by simp, by simp [leftN_rep], ?start⟩
  case start =>
    have : (fun j => (Array.replicate ops.size false).getD j false) = (fun _ : Nat => false) := by
      funext j; simp [Array.getD]
    rw [this]; exact h0
  case fin =>
    rintro l act u ⟨hs, hk, hI⟩
    have hall := leftN_zero l.toList hk.symm
    have hl : ∀ j, j < ops.size → l.getD j false = true := fun j hj => by
      have := hall j (by simpa [hs] using hj)
      have h2 : l[j]? = some true := by simpa using this
      rw [Array.getD_eq_getD_getElem?, h2]; rfl
    refine wpAnyIn_done ?_ (fin _ act u hI hl) 0
    rw [List.eq_nil_iff_forall_not_mem]
    intro i hi
    obtain ⟨h1, o, ho, _⟩ := mem_ready.1 hi
    have hlt := (Array.getElem?_eq_some_iff.1 ho).1
    have := hl i hlt
    rw [Array.getD_eq_getD_getElem?] at this h1
    cases e : l[i]? <;> simp_all
  case live =>
    rintro k l act u ⟨hs, hk, hI⟩ hr
    obtain ⟨i, h1, h2⟩ := leftN_pos l.toList (by omega)
    have hi : i < l.size := by have := (List.getElem?_eq_some_iff.1 h1).1; simpa using this
    rw [List.eq_nil_iff_forall_not_mem] at hr
    refine hr i (mem_ready.2 ⟨?_, ops[i]'(by omega), Array.getElem?_eq_getElem _, fun e he hbe => ?_⟩)
    · have h3 : l[i]? = some false := by simpa using h1
      rw [Array.getD_eq_getD_getElem?, h3]; rfl
    · have h4 := hlow i _ (Array.getElem?_eq_getElem (by omega)) e he hbe
      have h3 : l[e.on]? = some true := by simpa using h2 _ h4
      rw [Array.getD_eq_getD_getElem?, h3]; rfl
  case step =>
    rintro k l act u i ⟨hs, hk, hI⟩ hi hall
    have hlt := getD_lt' hi
    have hli : l[i]? = some false := by
      rw [Array.getD_eq_getD_getElem?] at hi
      rw [Array.getElem?_eq_getElem hlt] at hi ⊢
      simpa using hi
    have hw := step _ act u i (ops[i]'(by omega)) hI (Array.getElem?_eq_getElem _) (by show l.getD i false = false; rw [Array.getD_eq_getD_getElem?, hli]; rfl) (fun e he hb => hall e ⟨_, Array.getElem?_eq_getElem _, he⟩ hb)
    refine wpOpIn_mono (fun a' w' h' => ⟨by simp [hs], ?_, ?_⟩) hw
    · have := leftN_set l.toList i (by simpa using hli)
      rw [Array.toList_setIfInBounds]
      omega
    · have : (fun j => (l.setIfInBounds i true).getD j false) = (fun j => l.getD j false || (j == i)) := by
        funext j
        by_cases hj : j = i
        · subst hj
          simp [Array.getD, hlt]
        · rw [Array.getD_eq_getD_getElem?, Array.getElem?_setIfInBounds_ne (fun e => hj e.symm), ← Array.getD_eq_getD_getElem?]
          simp [hj]
      rw [this]; exact h'
  rw [Nat.zero_add] at main
  exact main
/-- Each waits for earlier ones alone. -/
def lowB2 (ops : Array Oper) : Bool := (List.range ops.size).all fun i => match ops[i]? with
  | some o => o.after.all fun e => !Region.binds .any e || decide (e.on < i)
  | none => true
theorem lowB2_low {ops : Array Oper} (h : lowB2 ops = true) : ∀ (i : Nat) (o : Oper), ops[i]? = some o → ∀ e ∈ o.after, Region.binds .any e = true → e.on < i := by
  intro i o ho e he hb
  have h1 := List.all_eq_true.1 h i (by simpa using (Array.getElem?_eq_some_iff.1 ho).1)
  rw [ho] at h1
  simp only [Array.all_eq_true_iff_forall_mem] at h1
  have := h1 e he
  rw [hb] at this
  simpa using this
/-- What must hold of the operations, by reckoning. -/
def wellB (ops : Array Oper) (ds : List (Option Nat)) (pure : Nat → Bool) (s : Nat) : Bool :=
  lowB2 ops && onceB ds && (ds.length == ops.size) && (List.range ops.size).all fun j => match ops[j]? with
    | none => true
    | some o => o.guard.isNone && (ds[j]? == some o.dst) && (if j == s then o.dst.isNone && !pure j else o.dst.isSome) && (if j < s then pure j || decide (ops.size ≤ s) || (List.range (s + 1)).any (fun i => decide (j < i) && !(pure i) && match ops[i]? with
      | some o' => o'.after.any fun e => (e.on == j) && Region.binds .any e
      | none => false) else if s < j then pure j else true)
structure Well (ops : Array Oper) (ds : List (Option Nat)) (pure : Nat → Bool) (s : Nat) : Prop where
  low : lowB2 ops = true
  once : onceB ds = true
  guard : ∀ (j : Nat) (o : Oper), ops[j]? = some o → o.guard = none
  dst : ∀ (j : Nat) (o : Oper), ops[j]? = some o → ds[j]? = some o.dst
  got : ∀ (j : Nat) (o : Oper), ops[j]? = some o → j ≠ s → ∃ t, o.dst = some t
  len : ds.length = ops.size
  stor : ∀ (o : Oper), ops[s]? = some o → o.dst = none ∧ pure s = false
  used : ∀ j, j < s → s < ops.size → pure j = false → ∃ (i : Nat) (o' : Oper) (e : Edge), j < i ∧ i ≤ s ∧ pure i = false ∧ ops[i]? = some o' ∧ e ∈ o'.after ∧ e.on = j ∧ Region.binds .any e = true
  late : ∀ (j : Nat) (o : Oper), ops[j]? = some o → s < j → pure j = true
theorem wellB_well {ops : Array Oper} {ds : List (Option Nat)} {pure : Nat → Bool} {s : Nat} (h : wellB ops ds pure s = true) : Well ops ds pure s := by
  simp only [wellB, Bool.and_eq_true] at h
  obtain ⟨⟨⟨h1, h2⟩, h2'⟩, h3⟩ := h
  have key : ∀ (j : Nat) (o : Oper), ops[j]? = some o → _ := fun j o ho => by
    have := List.all_eq_true.1 h3 j (by simpa using (Array.getElem?_eq_some_iff.1 ho).1)
    rw [ho] at this
    simp only [Bool.and_eq_true] at this
    exact this
  refine ⟨h1, h2, fun j o ho => by simpa using (key j o ho).1.1.1, fun j o ho => by simpa using (key j o ho).1.1.2, fun j o ho hj => ?_, by simpa using h2', fun o ho => ?_, fun j hj hs hp => ?_, fun j o ho hj => ?_⟩
  · have := (key j o ho).1.2
    rw [if_neg (by simpa using hj)] at this
    exact Option.isSome_iff_exists.1 this
  · have := (key s o ho).1.2
    rw [if_pos (by simp)] at this
    simpa using this
  · have hjl : j < ops.size := by omega
    have := (key j _ (Array.getElem?_eq_getElem hjl)).2
    rw [if_pos hj] at this
    simp only [hp, Bool.false_or, Bool.or_eq_true, decide_eq_true_eq, List.any_eq_true, Bool.and_eq_true] at this
    rcases this with h | ⟨i, hi, ⟨⟨hji, hpi⟩, hm⟩⟩
    · omega
    · have hi' : i < s + 1 := by simpa using hi
      have his : i < ops.size := by omega
      rw [Array.getElem?_eq_getElem his] at hm
      simp only [Array.any_eq_true'] at hm
      obtain ⟨e, he, hb⟩ := hm
      simp only [Bool.and_eq_true, beq_iff_eq] at hb
      exact ⟨i, _, e, hji, by omega, by simpa using hpi, Array.getElem?_eq_getElem his, he, hb.1, hb.2⟩
  · have := (key j o ho).2
    rw [if_neg (by omega), if_pos hj] at this
    exact this
/-- Between two of a region's operations. -/
structure RQ (W : World) (a : Act) (ops : Array Oper) (ds : List (Option Nat)) (pure : Nat → Bool) (s : Nat) (facts : Nat → Value → World → Prop) (PS : (Nat → Value) → World → World → Prop) (L : Nat → Bool) (act : Act) (u : World) : Prop where
  size : act.tmps.size = a.tmps.size
  defers : act.defers = a.defers
  frame : ∀ t, (∀ j, L j = true → ds[j]? ≠ some (some t)) → act.eval (.tmp t) = a.eval (.tmp t)
  inb : ∀ j, L j = true → j < ops.size
  shut : ∀ (j : Nat) (o : Oper), ops[j]? = some o → L j = true → ∀ e ∈ o.after, Region.binds .any e = true → L e.on = true
  have0 : L s = false → Bl W u ∧ ∀ (j t : Nat), ds[j]? = some (some t) → L j = true → facts j (act.eval (.tmp t)) u
  have1 : L s = true → ∃ u0 vs, Bl W u0 ∧ (∀ (j t : Nat), ds[j]? = some (some t) → L j = true → facts j (act.eval (.tmp t)) u0) ∧ (∀ (j t : Nat), ds[j]? = some (some t) → pure j = false → act.eval (.tmp t) = vs j) ∧ PS vs u0 u
/-- I: how a region's operations go, each told by a fact of what it yields; the one at s stores. -/
theorem region_q {F : Fence} {n : Nat} {P : Program} {ops : Array Oper} {Q : Exit → Act → World → Prop} {a : Act} {W : World} {id : Nat} (hm : P.follows .mixedOrders = true) (ds : List (Option Nat)) (pure : Nat → Bool) (s : Nat) (hw : wellB ops ds pure s = true)
    (hsz0 : ds.all (fun d => match d with | some t => Nat.blt t a.tmps.size | none => true) = true) (facts : Nat → Value → World → Prop) (mono : ∀ j v u u', Bl u u' → facts j v u → facts j v u') (PS : (Nat → Value) → World → World → Prop)
    (step : ∀ (j : Nat) (o : Oper) (t : Nat) (act : Act) (u : World), ops[j]? = some o → o.dst = some t → pure j = false → act.tmps.size = a.tmps.size → Bl W u → (∀ t, some t ∉ ds → act.eval (.tmp t) = a.eval (.tmp t)) → (∀ e ∈ o.after, Region.binds .any e = true → ∀ t, ds[e.on]? = some (some t) → facts e.on (act.eval (.tmp t)) u) →
      Oper.wpIn F n P o act u (fun act' u' => ∃ v, act' = act.put (some t) v ∧ facts j v u' ∧ Bl u u') Q)
    (still : ∀ (j : Nat) (o : Oper) (t : Nat) (act : Act) (u0 u : World), ops[j]? = some o → o.dst = some t → pure j = true → act.tmps.size = a.tmps.size → Bl W u0 → (∀ t, some t ∉ ds → act.eval (.tmp t) = a.eval (.tmp t)) → (∀ e ∈ o.after, Region.binds .any e = true → ∀ t, ds[e.on]? = some (some t) → facts e.on (act.eval (.tmp t)) u0) →
      Oper.wpIn F n P o act u (fun act' u' => ∃ v, act' = act.put (some t) v ∧ facts j v u0 ∧ u' = u) Q)
    (store : ∀ (o : Oper) (act : Act) (u : World) (vs : Nat → Value), ops[s]? = some o → act.tmps.size = a.tmps.size → Bl W u → (∀ t, some t ∉ ds → act.eval (.tmp t) = a.eval (.tmp t)) → (∀ (j t : Nat), ds[j]? = some (some t) → pure j = false → act.eval (.tmp t) = vs j ∧ facts j (vs j) u) →
      Oper.wpIn F n P o act u (fun act' u' => act' = act ∧ PS vs u u') Q)
    (fin : ∀ (vs vb : Nat → Value) (u0 u : World), Bl W u0 → (∀ (j : Nat) (t : Nat), ds[j]? = some (some t) → facts j (if pure j then vb j else vs j) u0) → (if s < ops.size then PS vs u0 u else u = u0) → Q .normal (putL ds (fun j => if pure j then vb j else vs j) 0 a) u) :
    (Code.region id ops true).wpIn F n P Q a W := by
  have H := wellB_well hw
  have hsz : ∀ t, some t ∈ ds → t < a.tmps.size := fun t ht => by have := List.all_eq_true.1 hsz0 _ ht; rw [Nat.blt_eq] at this; exact this
  have hlt : ∀ (j t : Nat), ds[j]? = some (some t) → j < ops.size := fun j t h => by have := (List.getElem?_eq_some_iff.1 h).1; rw [H.len] at this; exact this
  have hds : ∀ (j : Nat) (o : Oper) (t : Nat), ops[j]? = some o → ds[j]? = some (some t) → o.dst = some t := fun j o t ho h => by
    rw [H.dst j o ho] at h
    simpa using h
  have hne : ∀ (i j t t' : Nat), ds[i]? = some (some t) → ds[j]? = some (some t') → i ≠ j → t ≠ t' := by
    have : ∀ (ds : List (Option Nat)), onceB ds = true → ∀ (i j t t' : Nat), ds[i]? = some (some t) → ds[j]? = some (some t') → i < j → t ≠ t' := by
      intro ds
      induction ds with
      | nil => intro _ i j t t' h; simp at h
      | cons d ds ih =>
        intro ho i j t t' h1 h2 hij
        simp only [onceB, Bool.and_eq_true] at ho
        cases j with
        | zero => omega
        | succ j =>
          cases i with
          | zero =>
            simp at h1 h2
            subst h1
            have := ho.1
            simp at this
            exact fun e => this _ (List.mem_of_getElem? h2) (by rw [e])
          | succ i => exact ih ho.2 i j t t' (by simpa using h1) (by simpa using h2) (by omega)
    intro i j t t' h1 h2 hij
    rcases Nat.lt_or_gt_of_ne hij with h | h
    · exact this ds H.once i j t t' h1 h2 h
    · exact (this ds H.once j i t' t h2 h1 h).symm
  refine region_facts2 hm (lowB2_low H.low) (RQ W a ops ds pure s facts PS) ?_ ?_ ?_
  · exact ⟨rfl, rfl, fun _ _ => rfl, (by intro _ h; cases h), (by intro _ _ _ h; cases h), fun _ => ⟨(Bl.refl _).drew, (by intro _ _ _ h; cases h)⟩, (by intro h; cases h)⟩
  · intro L act u i o hI ho hLi hall
    have hil : i < ops.size := (Array.getElem?_eq_some_iff.1 ho).1
    refine step_wp ho (H.guard i o ho) ?_
    have hfr : ∀ t, some t ∉ ds → act.eval (.tmp t) = a.eval (.tmp t) := fun t ht => hI.frame t (fun j _ e => ht (List.mem_of_getElem? e))
    have shut' : ∀ (j : Nat) (o' : Oper), ops[j]? = some o' → (L j || (j == i)) = true → ∀ e ∈ o'.after, Region.binds .any e = true → (L e.on || (e.on == i)) = true := fun j o' ho' hj e he hb => by
      rw [Bool.or_eq_true] at hj
      rcases hj with hj | hj
      · rw [hI.shut j o' ho' hj e he hb]; rfl
      · obtain rfl : j = i := by simpa using hj
        rw [ho] at ho'
        cases ho'
        rw [hall e he hb]; rfl
    have inb' : ∀ j, (L j || (j == i)) = true → j < ops.size := fun j hj => by
      rw [Bool.or_eq_true] at hj
      rcases hj with hj | hj
      · exact hI.inb j hj
      · obtain rfl : j = i := by simpa using hj
        exact hil
    by_cases his : i = s
    · subst his
      obtain ⟨hd, hps⟩ := H.stor o ho
      obtain ⟨hb, hf⟩ := hI.have0 hLi
      have done : ∀ m, ∀ j, i - j ≤ m → j < i → pure j = false → L j = true := by
        intro m
        induction m with
        | zero => intro j h1 h2; omega
        | succ m ih =>
          intro j h1 h2 hp
          obtain ⟨k, o', e, hjk, hki, hpk, ho', he, hej, hbe⟩ := H.used j h2 hil hp
          subst hej
          by_cases hk : k = i
          · subst hk
            rw [ho] at ho'
            cases ho'
            exact hall e he hbe
          · exact hI.shut k o' ho' (ih k (by omega) (by omega) hpk) e he hbe
      have all : ∀ (j t : Nat), ds[j]? = some (some t) → pure j = false → L j = true := fun j t h hp => by
        have h2 := hlt j t h
        rcases Nat.lt_trichotomy j i with h1 | h1 | h1
        · exact done (i - j) j (Nat.le_refl _) h1 hp
        · subst h1
          rw [H.dst j o ho, hd] at h
          cases h
        · rw [H.late j _ (Array.getElem?_eq_getElem h2) h1] at hp
          cases hp
      have vals : ∀ (j t : Nat), ds[j]? = some (some t) → act.eval (.tmp t) = (fun j => act.eval (.tmp ((ds[j]?.getD none).getD 0))) j := fun j t h => by simp [h]
      refine Oper.wpIn_mono ?_ (store o act u (fun j => act.eval (.tmp ((ds[j]?.getD none).getD 0))) ho hI.size hb hfr (fun j t h hp => ⟨vals j t h, by have := hf j t h (all j t h hp); rw [vals j t h] at this; exact this⟩))
      rintro act' u' ⟨rfl, hP⟩
      refine ⟨hI.size, hI.defers, fun t ht => hI.frame t (fun j hj => ht j (by rw [hj]; rfl)), inb', shut', fun h => by simp at h, fun _ => ⟨u, _, hb, fun j t h hj => ?_, fun j t h hp => vals j t h, hP⟩⟩
      rw [Bool.or_eq_true] at hj
      rcases hj with hj | hj
      · exact hf j t h hj
      · obtain rfl : j = i := by simpa using hj
        rw [H.dst j o ho, hd] at h
        cases h
    · obtain ⟨t, hdt⟩ := H.got i o ho his
      have hdi : ds[i]? = some (some t) := by rw [H.dst i o ho, hdt]
      have htl : t < act.tmps.size := by rw [hI.size]; exact hsz t (List.mem_of_getElem? hdi)
      have hLs : (L s || (s == i)) = L s := by
        have : (s == i) = false := by simpa using fun e => his e.symm
        rw [this, Bool.or_false]
      have oth : ∀ (v : Value) (j t' : Nat), ds[j]? = some (some t') → j ≠ i → (act.put (some t) v).eval (.tmp t') = act.eval (.tmp t') := fun v j t' h hj => eval_put_other (hne j i t' t h hdi hj)
      have frame' : ∀ v, ∀ t', (∀ j, (L j || (j == i)) = true → ds[j]? ≠ some (some t')) → (act.put (some t) v).eval (.tmp t') = a.eval (.tmp t') := fun v t' h => by
        have h1 : t' ≠ t := fun e => h i (by simp) (by rw [e]; exact hdi)
        rw [eval_put_other h1]
        exact hI.frame t' (fun j hj => h j (by rw [hj]; rfl))
      cases hp : pure i with
      | false =>
        have hLs0 : L s = false := by
          cases hh : L s with
          | false => rfl
          | true =>
            obtain ⟨u0, vs, hb, hf, hv, hP⟩ := hI.have1 hh
            rcases Nat.lt_trichotomy i s with h1 | h1 | h1
            · have hsl : s < ops.size := hI.inb s hh
              have done : ∀ m, ∀ j, s - j ≤ m → j < s → pure j = false → L j = true := by
                intro m
                induction m with
                | zero => intro j h1 h2; omega
                | succ m ih =>
                  intro j h1 h2 hp
                  obtain ⟨k, o', e, hjk, hki, hpk, ho', he, hej, hbe⟩ := H.used j h2 hsl hp
                  subst hej
                  by_cases hk : k = s
                  · subst hk
                    exact hI.shut k o' ho' hh e he hbe
                  · exact hI.shut k o' ho' (ih k (by omega) (by omega) hpk) e he hbe
              rw [done (s - i) i (Nat.le_refl _) h1 hp] at hLi
              cases hLi
            · exact absurd h1 his
            · rw [H.late i o ho h1] at hp
              cases hp
        obtain ⟨hb, hf⟩ := hI.have0 hLs0
        refine Oper.wpIn_mono ?_ (step i o t act u ho hdt hp hI.size hb hfr (fun e he hbe t' ht' => hf e.on t' ht' (hall e he hbe)))
        rintro act' u' ⟨v, rfl, hv, hb'⟩
        refine ⟨by rw [size_put]; exact hI.size, by rw [defers_put]; exact hI.defers, frame' v, inb', shut', fun _ => ⟨hb.trans hb', fun j t' h hj => ?_⟩, fun h => by rw [hLs, hLs0] at h; cases h⟩
        by_cases hji : j = i
        · subst hji
          rw [hdi] at h
          cases h
          rw [eval_put_same htl]
          exact hv
        · rw [oth v j t' h hji]
          exact mono _ _ _ _ hb' (hf j t' h (by rw [Bool.or_eq_true] at hj; exact hj.resolve_right (by simpa using hji)))
      | true =>
        cases hh : L s with
        | false =>
          obtain ⟨hb, hf⟩ := hI.have0 hh
          refine Oper.wpIn_mono ?_ (still i o t act u u ho hdt hp hI.size hb hfr (fun e he hbe t' ht' => hf e.on t' ht' (hall e he hbe)))
          rintro act' u' ⟨v, rfl, hv, rfl⟩
          refine ⟨by rw [size_put]; exact hI.size, by rw [defers_put]; exact hI.defers, frame' v, inb', shut', fun _ => ⟨hb, fun j t' h hj => ?_⟩, fun h => by rw [hLs, hh] at h; cases h⟩
          by_cases hji : j = i
          · subst hji
            rw [hdi] at h
            cases h
            rw [eval_put_same htl]
            exact hv
          · rw [oth v j t' h hji]
            exact hf j t' h (by rw [Bool.or_eq_true] at hj; exact hj.resolve_right (by simpa using hji))
        | true =>
          obtain ⟨u0, vs, hb, hf, hvs, hP⟩ := hI.have1 hh
          refine Oper.wpIn_mono ?_ (still i o t act u0 u ho hdt hp hI.size hb hfr (fun e he hbe t' ht' => hf e.on t' ht' (hall e he hbe)))
          rintro act' u' ⟨v, rfl, hv, rfl⟩
          refine ⟨by rw [size_put]; exact hI.size, by rw [defers_put]; exact hI.defers, frame' v, inb', shut', (by intro h; rw [hLs, hh] at h; cases h), fun _ => ⟨u0, vs, hb, fun j t' h hj => ?_, fun j t' h hp' => ?_, hP⟩⟩
          · by_cases hji : j = i
            · subst hji
              rw [hdi] at h
              cases h
              rw [eval_put_same htl]
              exact hv
            · rw [oth v j t' h hji]
              exact hf j t' h (by rw [Bool.or_eq_true] at hj; exact hj.resolve_right (by simpa using hji))
          · rw [oth v j t' h (fun e => by subst e; rw [hp] at hp'; cases hp')]
            exact hvs j t' h hp'
  · intro L act u hI hall
    have fill : ∀ (vs vb : Nat → Value), (∀ (j t : Nat), ds[j]? = some (some t) → act.eval (.tmp t) = if pure j then vb j else vs j) → act = putL ds (fun j => if pure j then vb j else vs j) 0 a := fun vs vb h => by
      refine act_ext (by rw [putL_size]; exact hI.size) (by rw [putL_defers]; exact hI.defers) fun t ht => ?_
      by_cases hm : some t ∈ ds
      · obtain ⟨j, hj⟩ := List.getElem?_of_mem hm
        rw [h j t hj, putL_at ds _ t j 0 a H.once hj (hsz t hm), Nat.zero_add]
      · rw [putL_other ds _ t 0 a (fun d hd e => hm (e ▸ hd))]
        exact hI.frame t (fun j _ e => hm (List.mem_of_getElem? e))
    by_cases hs : s < ops.size
    · obtain ⟨u0, vs, hb, hf, hv, hP⟩ := hI.have1 (hall s hs)
      have ev : ∀ (j t : Nat), ds[j]? = some (some t) → act.eval (.tmp t) = if pure j then (fun j => act.eval (.tmp ((ds[j]?.getD none).getD 0))) j else vs j := fun j t h => by
        cases hp : pure j with
        | true => simp [h]
        | false => simpa using hv j t h hp
      rw [fill vs _ ev]
      refine fin vs _ u0 u hb (fun j t h => ?_) (by rw [if_pos hs]; exact hP)
      rw [← ev j t h]
      exact hf j t h (hall j (hlt j t h))
    · have hLs : L s = false ∨ L s = true := by cases L s <;> simp
      rcases hLs with hLs | hLs
      · obtain ⟨hb, hf⟩ := hI.have0 hLs
        have ev : ∀ (j t : Nat), ds[j]? = some (some t) → act.eval (.tmp t) = if pure j then (fun j => act.eval (.tmp ((ds[j]?.getD none).getD 0))) j else (fun j => act.eval (.tmp ((ds[j]?.getD none).getD 0))) j := fun j t h => by simp [h]
        rw [fill _ _ ev]
        refine fin _ _ u u hb (fun j t h => ?_) (by rw [if_neg hs])
        rw [← ev j t h]
        exact hf j t h (hall j (hlt j t h))
      · exact absurd (hI.inb s hLs) hs
end Go.Proofs.YtbfdkahbnfpabaaGreat

/- Matrices that are filled number by number, column by column from the diagonal down (layer 7): mathematics; a row's number set anew in memory. -/
namespace Go.Proofs.YtbfdkahbnfpabaaGreat
open Go.RowKit
set_option linter.unusedSimpArgs false
set_option linter.unusedVariables false

/-- A matrix with one number set. -/
def putM {α : Type} (g : Nat → Nat → α) (i k : Nat) (x : α) : Nat → Nat → α := fun a b => if a = i ∧ b = k then x else g a b
theorem idx_inj7 {C i k a b : Nat} (hk : k < C) (hb : b < C) (h : i * C + k = a * C + b) : i = a ∧ k = b := by
  have hC : 0 < C := by omega
  have h1 : (i * C + k) / C = i := by rw [Nat.add_comm, Nat.add_mul_div_right _ _ hC, Nat.div_eq_of_lt hk, Nat.zero_add]
  have h2 : (a * C + b) / C = a := by rw [Nat.add_comm, Nat.add_mul_div_right _ _ hC, Nat.div_eq_of_lt hb, Nat.zero_add]
  rw [h, h2] at h1
  subst h1
  exact ⟨rfl, by omega⟩
theorem mk_put {α : Type} {R C i k : Nat} (hi : i < R) (hk : k < C) (f : Nat → Nat → α) (x : α) : (mk R C f).set (i * C + k) x = mk R C (putM f i k x) :=
  mk_ext _ _ (by rw [List.length_set, mk_len]) fun a b ha hb => by
    rw [List.getElem?_set]
    by_cases h : i * C + k = a * C + b
    · obtain ⟨rfl, rfl⟩ := idx_inj7 hk hb h
      rw [if_pos rfl, if_pos (by rw [mk_len]; exact mk_idx ha hb)]
      simp [putM]
    · rw [if_neg h, mk_get f ha hb]
      unfold putM
      rw [if_neg]
      rintro ⟨rfl, rfl⟩
      exact h rfl
/-- The first m numbers of column k, from the diagonal down, each told by val of what is there so far. -/
def colT {α : Type} (val : (Nat → Nat → α) → Nat → Nat → α) (k : Nat) (g : Nat → Nat → α) : Nat → Nat → Nat → α
  | 0 => g
  | m + 1 => putM (colT val k g m) (k + m) k (val (colT val k g m) (k + m) k)
/-- The first columns, the others z. -/
def triT {α : Type} (val : (Nat → Nat → α) → Nat → Nat → α) (z : α) (n : Nat) : Nat → Nat → Nat → α
  | 0 => fun _ _ => z
  | k + 1 => colT val k (triT val z n k) (n - k)
theorem colT_eq {α : Type} (val : (Nat → Nat → α) → Nat → Nat → α) (k : Nat) (g : Nat → Nat → α) : ∀ m a b, ¬ (b = k ∧ k ≤ a ∧ a < k + m) → colT val k g m a b = g a b
  | 0, a, b, _ => rfl
  | m + 1, a, b, h => by
    show putM _ _ _ _ a b = _
    unfold putM
    rw [if_neg (by omega)]
    exact colT_eq val k g m a b (by omega)
/-- Where what is told hangs on f alone, it stands there. -/
theorem triT_const {α : Type} (f : Nat → Nat → α) (z : α) (n : Nat) : ∀ k, k ≤ n → ∀ a b, a < n → triT (fun _ i k => f i k) z n k a b = if b ≤ a ∧ b < k then f a b else z
  | 0, _, a, b, _ => by rw [if_neg (by omega)]; rfl
  | k + 1, hk, a, b, ha => by
    have ih := triT_const f z n k (by omega) a b ha
    have col : ∀ m, colT (fun _ i k => f i k) k (triT (fun _ i k => f i k) z n k) m a b = if b = k ∧ k ≤ a ∧ a < k + m then f a b else triT (fun _ i k => f i k) z n k a b := by
      intro m
      induction m with
      | zero => rw [if_neg (by omega)]; rfl
      | succ m ih =>
        show putM _ _ _ _ a b = _
        unfold putM
        by_cases h : a = k + m ∧ b = k
        · rw [if_pos h, if_pos (by omega)]
          obtain ⟨rfl, rfl⟩ := h
          rfl
        · rw [if_neg h, ih]
          by_cases h2 : b = k ∧ k ≤ a ∧ a < k + m
          · rw [if_pos h2, if_pos (by omega)]
          · rw [if_neg h2, if_neg (by omega)]
    show colT _ _ _ (n - k) a b = _
    rw [col, ih]
    by_cases h : b = k ∧ k ≤ a ∧ a < k + (n - k)
    · rw [if_pos h, if_pos (by omega)]
    · rw [if_neg h]
      by_cases h2 : b ≤ a ∧ b < k
      · rw [if_pos h2, if_pos (by omega)]
      · rw [if_neg h2, if_neg (by omega)]
/-- Values laid one behind the other over a row's. -/
def setRow : List Value → Nat → List Value → List Value
  | l, _, [] => l
  | l, q, u :: us => setRow (l.set q u) (q + 1) us
theorem setRow_left : ∀ (us l1 pre l2 : List Value), l1.length = us.length → setRow (pre ++ l1 ++ l2) pre.length us = pre ++ us ++ l2
  | [], l1, pre, l2, h => by
    have : l1 = [] := List.eq_nil_of_length_eq_zero h
    subst this
    rfl
  | u :: us, [], pre, l2, h => by simp at h
  | u :: us, v :: l1, pre, l2, h => by
    have e : (pre ++ v :: l1 ++ l2).set pre.length u = (pre ++ [u]) ++ l1 ++ l2 := by simp
    have ih := setRow_left us l1 (pre ++ [u]) l2 (by simpa using h)
    show setRow ((pre ++ v :: l1 ++ l2).set pre.length u) (pre.length + 1) us = _
    rw [e]
    simpa using ih
theorem setRow_right : ∀ (us l r : List Value) (q : Nat), setRow (l ++ r) (l.length + q) us = l ++ setRow r q us
  | [], l, r, q => rfl
  | u :: us, l, r, q => by
    show setRow ((l ++ r).set (l.length + q) u) (l.length + q + 1) us = l ++ setRow (r.set q u) (q + 1) us
    rw [List.set_append_right _ _ (by omega), Nat.add_sub_cancel_left, Nat.add_assoc, setRow_right us l _ (q + 1)]
theorem flat_set {α : Type} {s : Nat} {c : α → List Value} (hs : ∀ x, (c x).length = s) : ∀ (xs : List α) (q : Nat) (x : α), q < xs.length → setRow (xs.flatMap c) (q * s) (c x) = (xs.set q x).flatMap c
  | [], q, x, h => by simp at h
  | y :: ys, 0, x, h => by
    have := setRow_left (c x) (c y) [] (ys.flatMap c) (by rw [hs, hs])
    simpa using this
  | y :: ys, q + 1, x, h => by
    have := setRow_right (c x) (c y) (ys.flatMap c) (q * s)
    rw [hs] at this
    rw [List.flatMap_cons, show (q + 1) * s = s + q * s by rw [Nat.add_mul]; omega, this, flat_set hs ys q x (by simpa using h)]
    simp
theorem flatI7 (xs : List Int) : xs.flatMap cellsI = xs.map (fun x => (.int .i64 x : Value)) := by
  induction xs with
  | nil => rfl
  | cons x xs ih => rw [List.flatMap_cons, ih]; rfl
theorem zeros_made (n : Nat) : (madeCells (Value.cells (.int .i64 0)) (n * 1)).toList = (List.replicate n (0 : Int)).flatMap cellsI := by
  rw [flatI7, Nat.mul_one, List.map_replicate]
  exact toList_madeCells_one _ _
theorem zeros_map {α : Type} (n : Nat) (f : Int → α) : (List.replicate (n * n) (0 : Int)).map f = mk n n (fun _ _ => f 0) :=
  mk_ext _ _ (by simp) fun i k hi hk => by simp [List.getElem?_replicate, mk_idx hi hk]
theorem own_base {w : World} {base base' : Nat} {e : TypeId} {s : Nat} {v : Value} {n : Nat} {xs : List Value} (h : w.ownsRow base e s v n xs) (hb : base' ≤ base) : w.ownsRow base' e s v n xs := by
  refine ⟨h.1, ?_⟩
  rcases h.2 with h | ⟨g, cap, cur, e1, h1, r⟩
  · exact .inl h
  · exact .inr ⟨g, cap, cur, e1, Nat.le_trans hb h1, r⟩
/-- Values laid one behind the other into a block. -/
def putX (w : World) (b : Nat) : Nat → List Value → World
  | _, [] => w
  | q, u :: us => putX (w.setCell ⟨b, q, none⟩ u) b (q + 1) us
theorem mbox_putX {b' b : Nat} {r c : Int} {p : Option Addr} {n cap : Nat} : ∀ {w : World}, MBox w b r c p n cap → b ≠ b' → ∀ (q : Nat) (us : List Value), MBox (putX w b' q us) b r c p n cap := by
  intro w h hne q us
  induction us generalizing w q with
  | nil => exact h
  | cons u us ih => exact ih (mbox_block h (Below.heap_setCell _ _ _ b (by show b ≠ b'; exact hne)) (by simp)) (q + 1)
theorem bl_putX {a : World} {b' : Nat} : ∀ {w : World}, Bl a w → a.heap.size ≤ b' → ∀ (q : Nat) (us : List Value), Bl a (putX w b' q us) := by
  intro w h hne q us
  induction us generalizing w q with
  | nil => exact h
  | cons u us ih => exact ih (Bl.set h hne _) (q + 1)
theorem wrapS7 {x : Int} (h1 : -1000000 ≤ x) (h2 : x ≤ 1000000) : IntKind.i64.wrap x = x := by
  rw [IntKind.wrap_i64]
  omega
theorem Mx.congr7 {α : Type} {s : Nat} {c : α → List Value} {w : World} {R C : Nat} {p : Option Addr} {n cap : Nat} {f g : Nat → Nat → α} (h : Mx s c w R C p n cap f) (e : ∀ i k, i < R → k < C → f i k = g i k) : Mx s c w R C p n cap g :=
  ⟨h.1, h.2.1, by rw [← mk_congr e]; exact h.2.2⟩
theorem rq_set7 {α : Type} {s : Nat} {c : α → List Value} {w : World} {v : Value} {xs : List α} (h : Rq s c w v xs) {p : Addr} (u : Value) (hf : Fresh (p.block + 1) v) : Rq s c (w.setCell p u) v xs := by
  rcases h with h | ⟨b, o, cap, rfl, hc, hb, hx⟩
  · exact .inl h
  · have hne : p.block + 1 ≤ b := hf b rfl
    have hk : (w.setCell p u).heap[b]? = w.heap[b]? := Below.heap_setCell _ _ _ b (by omega)
    exact .inr ⟨b, o, cap, rfl, hc, by simpa using hb, fun j x hj k v hv => (World.cell?_of_block (a := ⟨b, o + j * s + k, none⟩) hk).trans (hx j x hj k v hv)⟩
theorem mx_put7 {α : Type} {s : Nat} {c : α → List Value} {w : World} {R C : Nat} {p : Option Addr} {n cap b : Nat} {f : Nat → Nat → α} (h : Mx s c w R C p n cap f) (hf : Fresh (b + 1) (.slice p n cap)) (v0 v1 v2 : Value) : Mx s c (((w.setCell ⟨b, 0, none⟩ v0).setCell ⟨b, 1, none⟩ v1).setCell ⟨b, 2, none⟩ v2) R C p n cap f :=
  ⟨h.1, h.2.1, rq_set7 (rq_set7 (rq_set7 h.2.2 (p := ⟨b, 0, none⟩) v0 hf) (p := ⟨b, 1, none⟩) v1 hf) (p := ⟨b, 2, none⟩) v2 hf⟩
/-- Whether it is a square that may be. -/
def sqB (r c : Int) (n : Nat) : Bool := fitB r c n && decide (r = c)
theorem rowM_take7 {α : Type} {k n : Nat} (h : k ≤ n) (f : Nat → Nat → α) (i : Nat) : (rowM n f i).take k = rowM k f i := by
  unfold rowM
  rw [← List.map_take, List.take_range, Nat.min_eq_left h]
theorem rw_row7 {α : Type} {s : Nat} {c : α → List Value} {w : World} {p : Option Addr} {n k cap : Nat} {f : Nat → Nat → α} {i : Nat} (h : Rw s c w (.slice p n cap) (rowM n f i)) (hk : k ≤ n) : Rw s c w (.slice p k cap) (rowM k f i) := by
  obtain ⟨p', cap', e, _, hc⟩ := h.cut
  have hl := rowM_len n f i
  rw [hl] at e hc
  cases e
  have := hc k hk
  rwa [rowM_take7 hk] at this
/-- No truth value lies in a block. -/
def NoB (u : World) (b : Nat) : Prop := ∀ o x, u.cell? ⟨b, o, none⟩ ≠ some (.bool x)
theorem NoB.later {u u' : World} {b : Nat} (h : NoB u b) (k : Bl u u') (hb : b < u.heap.size) : NoB u' b := fun o x e => h o x ((bl_cell k _ _ hb).symm.trans e)
theorem noB_new (u : World) (t : TypeId) : NoB (u.alloc (.cells #[.int .i64 0, .int .i64 0, .slice none 0 0] t)) u.heap.size := by
  intro o x
  rcases o with _ | _ | _ | o
  · simp [go_sem]
  · simp [go_sem]
  · simp [go_sem]
  · simp [go_sem]
theorem noB_mx {α : Type} {s : Nat} {c : α → List Value} (hc : ∀ x, ∃ (j : Nat) (y : Bool), (c x)[j]? = some (Value.bool y)) {u : World} {R C : Nat} {p : Option Addr} {n cap : Nat} {f : Nat → Nat → α} (h : Mx s c u R C p n cap f) {b : Nat} (nb : NoB u b) : ∀ g, (Value.slice p n cap).ownBlock = some g → b ≠ g := by
  obtain ⟨b', o, rfl, _, _, hcell⟩ := h.cells
  obtain ⟨j, y, hj⟩ := hc (f 0 0)
  have := hcell 0 0 h.1.r1 h.1.c1 j _ hj
  rintro g hg rfl
  cases hg
  exact nb _ _ this
theorem mx_ne7 {α : Type} {s : Nat} {c : α → List Value} {w : World} {R C : Nat} {p : Option Addr} {n cap b : Nat} {f : Nat → Nat → α} (h : Mx s c w R C p n cap f) (hf : ∀ g, (Value.slice p n cap).ownBlock = some g → b ≠ g) (v0 v1 v2 : Value) : Mx s c (((w.setCell ⟨b, 0, none⟩ v0).setCell ⟨b, 1, none⟩ v1).setCell ⟨b, 2, none⟩ v2) R C p n cap f := by
  have one : ∀ (w : World) (a : Addr) (v : Value), a.block = b → Rq s c w (.slice p n cap) (mk R C f) → Rq s c (w.setCell a v) (.slice p n cap) (mk R C f) := by
    intro w a v ha h
    rcases h with h | ⟨b', o, cap', e, hc, hb, hx⟩
    · exact .inl h
    · cases e
      have hne := hf b' rfl
      have hk : (w.setCell a v).heap[b']? = w.heap[b']? := Below.heap_setCell _ _ _ b' (by omega)
      exact .inr ⟨b', o, cap, rfl, hc, by simpa using hb, fun j x hj k v hv => (World.cell?_of_block (a := ⟨b', o + j * s + k, none⟩) hk).trans (hx j x hj k v hv)⟩
  exact ⟨h.1, h.2.1, one _ _ _ rfl (one _ _ _ rfl (one _ _ _ rfl h.2.2))⟩
theorem mbox_set7 {w : World} {b b' : Nat} {r c : Int} {p : Option Addr} {n cap : Nat} (h : MBox w b r c p n cap) (hne : b ≠ b') (o : Nat) (v : Value) : MBox (w.setCell ⟨b', o, none⟩ v) b r c p n cap :=
  mbox_block h (Below.heap_setCell _ _ _ b (by show b ≠ b'; exact hne)) (by simp)
theorem rw_cells7 {α : Type} {s : Nat} {c : α → List Value} {w : World} {x : RowX} {C : Nat} {xs : List α} (h : Rw s c w (rowV C x) xs) (h0 : 0 < C) : ∃ b o, x.2.1 = some ⟨b, o, none⟩ ∧ b < w.heap.size ∧ ∀ (j : Nat) y, xs[j]? = some y → ∀ k u, (c y)[k]? = some u → w.cell? ⟨b, o + j * s + k, none⟩ = some u := by
  rcases h with ⟨e, _⟩ | ⟨b, o, cap, e, _, hb, hx⟩
  · simp only [rowV, Value.slice.injEq] at e
    omega
  · simp only [rowV, Value.slice.injEq] at e
    exact ⟨b, o, e.1, hb, hx⟩
/-- A call, as one operation. -/
theorem enter_wp {F : Fence} {n : Nat} {P : Program} {o : Oper} {a : Act} {w : World} {K : Act → World → Prop} {Q : Exit → Act → World → Prop} (f : Nat) (args : Array Value) (hd : ∀ c, o.op ≠ .defer c) (ha : ∀ g, o.about P w a.eval = some g → F.fn g)
    (hr : (execOp a.eval o).run P w = .ok (.enter f args) w) (h1 : F.depth.isSome = true → 1 ≤ n) {R : Ending → World → Prop} (hc : CallsIn F (n - 1) P f args w R) (hK : ∀ e w', R e w' → ∃ v, e = .returned v ∧ K (a.put o.dst v) w') : Oper.wpIn F n P o a w K Q := by
  unfold Oper.wpIn
  refine ⟨ha, ?_⟩
  rw [Oper.semAt_plain F _ _ hd, hr, Oper.uponIn_enter]
  refine ⟨h1, hc.mono ?_⟩
  intro e w' h
  obtain ⟨v, rfl, h2⟩ := hK e w' h
  exact h2
end Go.Proofs.YtbfdkahbnfpabaaGreat

/- Contracts of tri's square, triangle, and of Whole's own memory, of fractions (layer 7). Written by genTr.py. -/
namespace Go.Proofs.YtbfdkahbnfpabaaGreat
open Go.RowKit
set_option linter.unusedSimpArgs false
set_option linter.unusedVariables false

theorem tSquareF (r c : Int) (p : Option Addr) (n cap : Nat) (w : World) :
    Calls Tryz.prog 29 #[mV r c p n cap] w fun e w' => e = .returned (.bool (sqB r c n)) ∧ Bl w w' := by
  obtain ⟨W, hW⟩ : ∃ W, W = w.alloc (.cells #[.int .i64 r, .int .i64 c, .slice p n cap] 28) := ⟨_, rfl⟩
  have b0 : Bl w W := by rw [hW]; exact (Bl.refl _).alloc _
  have m0 : MBox W w.heap.size r c p n cap := by rw [hW]; exact MBox.new w _ _ _ _ _ _
  have HW := hideP hW
  clear hW
  have hd : sqB r c n = (fitB r c n && (r == c)) := by unfold sqB; congr 1
  rw [hd]
  clear hd
  cases hf : fitB r c n
  · go_enter Tryz.func29, Tryz.ntmps29
    go_wp2_with fail
    rw [← HW.out]
    refine (mRightF _ _ _ _ _ _).mono ?_
    rintro e w1 ⟨rfl, h1⟩
    rw [hf]
    obtain ⟨c0, c1, c2, f0, f1, f2, lt⟩ := m0.later h1
    go_wp2
    go_ret
    exact ⟨rfl, b0.trans h1⟩
  · go_enter Tryz.func29, Tryz.ntmps29
    go_wp2_with fail
    rw [← HW.out]
    refine (mRightF _ _ _ _ _ _).mono ?_
    rintro e w1 ⟨rfl, h1⟩
    rw [hf]
    obtain ⟨c0, c1, c2, f0, f1, f2, lt⟩ := m0.later h1
    go_wp2
    go_ret
    exact ⟨by rw [Bool.true_and]; rfl, b0.trans h1⟩
set_option maxHeartbeats 1000000 in
/-- vec.Whole's memory is its own. -/
theorem vWholeOF (p : Option Addr) (n cap : Nat) (ns : List Int) (w : World) (h : Rq 1 (fun n => [.int .i64 n]) w (.slice p n cap) ns) (hn : ns.length = n) (h0 : 0 < n) (hl : n ≤ 1000000) :
    Calls Tryz.prog 17 #[.slice p n cap] w fun e w' => ∃ u, e = .returned u ∧ w'.ownsRow w.heap.size 32 3 u n ((ns.map wholeF).flatMap cellsF) ∧ Bl w w' := by
  obtain ⟨i0, hi, hz0, hz1, hz2⟩ := info_parts Tryz.info_F
  subst hn
  rcases h with ⟨p', cap', he, rfl, hpn⟩ | ⟨b, o, cap', he, hc, hb, hx⟩
  · simp at h0
  · cases he
    have HX := hideP hx
    clear hx
    go_enter Tryz.func17, Tryz.ntmps17
    go_wp2_with (at_make; refine wpList_make_own _ rfl _ _ 26 rfl w.heap.size 32 i0 (.agg #[.int .i64 0, .int .i64 0, .bool false]) 3 Tryz.underlying26 hi hz0 hz1 .i64 .i64 _ ns.length rfl rfl (by simp) (by rw [hz2]; omega) (by unfold maxLen; omega) (Nat.le_refl _) ?_; intro w0 hown0 hgrow0)
    have hB0 : Bl w w0 := (Bl.refl w).grown hgrow0 (by omega) (fun k e => by cases e)
    go_loopw [3, 11] (fun v i wr => ∃ k : Nat, i = .int .i64 k ∧ k ≤ ns.length ∧ wr.ownsRow w.heap.size 32 3 v ((ns.take k).map wholeF).length (((ns.take k).map wholeF).flatMap cellsF) ∧ Bl w wr) (fun _ i _ => ns.length - (intOf i).toNat)
    case atStart => exact ⟨0, rfl, Nat.zero_le _, hown0, hB0⟩
    case round =>
      obtain ⟨k, rfl, hk, hown, hB⟩ := hrel
      by_cases hlt : k < ns.length
      · obtain ⟨x, hx⟩ : ∃ x, ns[k]? = some x := ⟨_, List.getElem?_eq_getElem hlt⟩
        have y0 : wr.cell? ⟨b, o + k, none⟩ = some (.int .i64 x) := by
          have := (bl_cell hB _ _ hb).trans (HX.out k x hx 0 _ rfl)
          simpa using this
        have hT : (ns.take (k + 1)).map wholeF = (ns.take k).map wholeF ++ [wholeF x] := by rw [List.take_add_one, hx]; simp
        have hkl : ((ns.take k).map wholeF).length = k := by simp; omega
        have HK := hideP hkl
        clear hkl
        have HT := hideP hT
        clear hT
        generalize hys : (ns.take k).map wholeF = ys at *
        clear hys
        go_wp2_with fail
        refine (vwholeF x _).mono ?_
        rintro e w2 ⟨rfl, h2⟩
        have hr : wholeF x = (newR x 1) := rfl
        generalize (newR x 1) = r at *
        rw [hr] at HT
        clear hr y0
        replace hown := own_blF hown h2
        replace hB := hB.trans h2
        have hkk := HK.out
        go_wp2_with (at_builtin; refine wpList_append_own _ rfl _ _ 26 rfl w.heap.size 32 i0 (.agg #[.int .i64 0, .int .i64 0, .bool false]) 3 24 Tryz.underlying26 hi hz0 hz1 hz2 rfl (by decide) _ _ _ rfl (hown.alloc _) ⟨_, 0, none⟩ 1 1 (cellsF r) rfl rfl (newF_cells _ _ _) (oneF_cells _) (by unfold maxLen; omega) (by omega) (by have := hB.size; simp; omega) ?_; intro v' w1 hown' hgrow _)
        have R := ownF_step hB hown hown' hgrow
        clear hown hown' hgrow
        go_wp2
        go_roundw
        case rel => exact ⟨k + 1, by simp, hlt, by rw [HT.out]; exact R.2, R.1⟩
        case measure => simp [intOf]; omega
      · have hk' : k = ns.length := by omega
        subst hk'
        rw [List.take_length, List.length_map] at hown
        have R := hideP hown
        clear hown
        go_wp2
        go_ret
        exact ⟨_, rfl, R.out, hB⟩
/-- mat.Whole's memory is its own. -/
theorem mWholeOF (r c : Int) (p : Option Addr) (n cap : Nat) (ns : List Int) (w : World) (hr : Rq 1 (fun n => [.int .i64 n]) w (.slice p n cap) ns) (h : fitB r c n = true) (hn : ns.length = n) :
    Calls Tryz.prog 8 #[.int .i64 r, .int .i64 c, .slice p n cap] w fun e w' => ∃ g cap', e = .returned (.tuple #[mV r c (some ⟨g, 0, none⟩) n cap', .bool true]) ∧ w'.ownsRow (w.heap.size + 1) 32 3 (.slice (some ⟨g, 0, none⟩) n cap') n ((ns.map wholeF).flatMap cellsF) ∧ Bl w w' := by
  have hl : n ≤ 1000000 ∧ 0 < n := by obtain ⟨R, C, _, _, hd, rfl⟩ := fitB_nat h; have := hd.lt; exact ⟨by omega, Nat.mul_pos hd.r1 hd.c1⟩
  obtain ⟨W, hW⟩ : ∃ W, W = w.alloc (.cells #[.int .i64 0, .int .i64 0, .slice none 0 0] 28) := ⟨_, rfl⟩
  have b0 : Bl w W := by rw [hW]; exact (Bl.refl _).alloc _
  have x0 : MBox W w.heap.size 0 0 none 0 0 := by rw [hW]; exact MBox.new w 0 0 none 0 0 _
  have hsz : W.heap.size = w.heap.size + 1 := by rw [hW]; simp
  have CL := hideP (vWholeOF p n cap ns W (hr.later b0) hn hl.2 hl.1)
  rw [hsz] at CL
  have HW := hideP hW
  clear hW hr
  go_enter Tryz.func8, Tryz.ntmps8
  go_wp2_with fail
  rw [← HW.out]
  refine (fits_any _ _ _ _).mono ?_
  rintro e w1 ⟨rfl, rfl⟩
  rw [h]
  go_wp2_with fail
  refine CL.out.mono ?_
  rintro e w2 ⟨u, rfl, hR, h2⟩
  obtain ⟨g, cap', hu⟩ : ∃ g cap', u = .slice (some ⟨g, 0, none⟩) n cap' := by
    rcases hR.2 with ⟨rfl, e⟩ | ⟨g, cap', cur, rfl, _⟩
    · have := hl.2; omega
    · exact ⟨g, cap', rfl⟩
  subst hu
  have HR := hideP hR
  obtain ⟨c0, c1, c2, f0, f1, f2, lt⟩ := x0.later h2
  clear hR CL
  go_wp2
  simp [bodyPost, results, Tryz.results8, go_sem, c0, c1, c2]
  refine ⟨g, cap', ⟨rfl, rfl⟩, ?_, Bl.put3 (b0.trans h2) (Nat.le_refl _) _ _ _⟩
  exact ownsRow_setCell_below (ownsRow_setCell_below (ownsRow_setCell_below HR.out (a := ⟨w.heap.size, 0, none⟩) (Nat.lt_succ_self _) _) (a := ⟨w.heap.size, 1, none⟩) (Nat.lt_succ_self _) _) (a := ⟨w.heap.size, 2, none⟩) (Nat.lt_succ_self _) _
/-- One number of a row that is owned, set anew. -/
theorem own_putF {w : World} {base g m cap : Nat} {xs : List Fr} (h : w.ownsRow base 32 3 (.slice (some ⟨g, 0, none⟩) m cap) m (xs.flatMap cellsF)) {q : Nat} (hq : q < xs.length) (x : Fr) :
    (((w.setCell ⟨g, q * 3, none⟩ (.int .i64 x.n)).setCell ⟨g, q * 3 + 1, none⟩ (.int .i64 x.d)).setCell ⟨g, q * 3 + 2, none⟩ (.bool x.bad)).ownsRow base 32 3 (.slice (some ⟨g, 0, none⟩) m cap) m ((xs.set q x).flatMap cellsF) := by
  have e := flat_set cellsF_len xs q x hq
  rw [← e]
  have o0 := h
  obtain ⟨o1, g1⟩ := o0.stored (q * 3) (.int .i64 x.n)
  obtain ⟨o2, g2⟩ := o1.stored (q * 3 + 1) (.int .i64 x.d)
  obtain ⟨o3, g3⟩ := o2.stored (q * 3 + 2) (.bool x.bad)
  exact o3

set_option maxRecDepth 100000 in
set_option maxHeartbeats 2000000 in
theorem tTriangleF (G pb : Nat) (eg : ∀ (args : Array Value) (w : World), (callFunc G args).run Tryz.prog w = .ok (.enter G args) w) (val : (Nat → Nat → Fr) → Nat → Nat → Fr) (n N : Nat) (h1 : 1 ≤ n) (h2 : n ≤ 16) (hN : N = n * n) (w : World)
    (hG : ∀ (f : Nat → Nat → Fr) (p : Option Addr) (cap i k : Nat) (u : World), k ≤ i → i < n → Bl w u → Mx 3 cellsF u n n p N cap f → Calls Tryz.prog G #[mV n n p N cap, .int .i64 i, .int .i64 k, .pointer (some ⟨pb, 0, none⟩)] u fun e w' => e = .returned (frV (val f i k)) ∧ Bl u w') :
    Calls Tryz.prog 30 #[.int .i64 n, .func (.func G) #[] #[.pointer (some ⟨pb, 0, none⟩)]] w fun e w' => ∃ p' cap', e = .returned (mV n n p' N cap') ∧ (Mx 3 cellsF w' n n p' N cap' (triT val (wholeF 0) n n) ∧ Fresh w.heap.size (.slice p' N cap')) ∧ Bl w w' := by
  obtain ⟨i0, hi, hz0, hz1, hz2⟩ := info_parts Tryz.info_I
  have fm : Tryz.prog.follows .mixedOrders = true := by kernel_rfl
  have hd : Dim n n := ⟨h1, h2, h1, h2⟩
  have hnn : (n : Int) * (n : Int) = N := by rw [hN]; simp
  have hN256 : N ≤ 256 := by rw [hN]; exact hd.lt
  have hfit := hideP (fitB_dim hd hN)
  have HN := hideP hN
  have HG := hideP hG
  clear hN hG
  have z0 := MBox.new w 0 0 none 0 0 28
  go_enter Tryz.func30, Tryz.ntmps30
  go_wp2_with (at_make; refine wpList_make_full _ rfl _ _ 22 rfl (w.heap.size + 1) 3 i0 (.int .i64 0) 1 Tryz.underlying22 hi hz0 hz1 .i64 .i64 _ _ N rfl rfl (by simp) (by simp) (by rw [hz2]; omega) (by unfold maxLen; omega) (by simp) ?_; intro w0 hown0 hgrow0)
  rw [zeros_made] at hown0
  have hB0 : Bl w w0 := ((Bl.refl w).alloc _).grown hgrow0 (by simp) (fun k e => by cases e)
  have hz : MBox w0 w.heap.size 0 0 none 0 0 := mbox_block z0 (hgrow0.block _ z0.lt nofun) hgrow0.size
  have hs0 : w.heap.size + 1 ≤ w0.heap.size := by have := hz.lt; omega
  clear hgrow0 z0
  try simp only [World.size_alloc] at hown0 ⊢
  have hr : Rq 1 (fun n => [.int .i64 n]) w0 (.slice (some ⟨w.heap.size + 1, 0, none⟩) N N) (List.replicate N (0 : Int)) := (Rw.of_own cellsI_len (xs := List.replicate N (0 : Int)) (by rw [List.length_replicate]; exact hown0)).q
  have WH := hideP (mWholeOF n n _ N N _ w0 hr hfit.out (by simp))
  clear hr hown0
  refine WH.out.mono ?_
  rintro e w2 ⟨g, cap, rfl, hown, h2'⟩
  rw [HN.out, zeros_map, ← HN.out] at hown
  have hg := hown.lt g rfl
  have hB2 : Bl w w2 := hB0.trans h2'
  have hz2 := hz.later h2'
  clear WH hz hB0
  obtain ⟨W, hW⟩ : ∃ W, W = w2.alloc (.cells #[.int .i64 n, .int .i64 n, .slice (some ⟨g, 0, none⟩) N cap] 28) := ⟨_, rfl⟩
  have bt : MBox W w2.heap.size n n (some ⟨g, 0, none⟩) N cap := by rw [hW]; exact MBox.new w2 _ _ _ _ _ _
  have bW : Bl w W := by rw [hW]; exact hB2.alloc _
  have hzW : MBox W w.heap.size 0 0 none 0 0 := by rw [hW]; exact hz2.later ((Bl.refl _).alloc _)
  have hoW : W.ownsRow (w.heap.size + 1) 32 3 (.slice (some ⟨g, 0, none⟩) N cap) N ((mk n n (triT val (wholeF 0) n 0)).flatMap cellsF) := by
    rw [hW]
    exact (own_base hown (by omega)).alloc _
  have hgt : w.heap.size + 1 ≤ g ∧ g < w2.heap.size := ⟨by have := hg.1; omega, hg.2⟩
  have HW := hideP hW
  clear hW hown hg hz2 h2'
  go_wp2_with fail
  rw [← HW.out]
  go_loopw [20] (fun i wr => ∃ k : Nat, i = .int .i64 k ∧ k ≤ n ∧ wr.ownsRow (w.heap.size + 1) 32 3 (.slice (some ⟨g, 0, none⟩) N cap) N ((mk n n (triT val (wholeF 0) n k)).flatMap cellsF) ∧ MBox wr w2.heap.size n n (some ⟨g, 0, none⟩) N cap ∧ MBox wr w.heap.size 0 0 none 0 0 ∧ Bl w wr) (fun i _ => n - (intOf i).toNat)
  case atStart => exact ⟨0, rfl, Nat.zero_le _, hoW, bt, hzW, bW⟩
  case round =>
    clear hoW bt hzW bW
    obtain ⟨k, rfl, hk, hown, ht, hz, hB⟩ := hrel
    by_cases hlt : k < n
    · go_wp2_with fail
      go_loopw [8] (fun i wr => ∃ m : Nat, i = .int .i64 (((k + m : Nat)) : Int) ∧ k + m ≤ n ∧ wr.ownsRow (w.heap.size + 1) 32 3 (.slice (some ⟨g, 0, none⟩) N cap) N ((mk n n (colT val k (triT val (wholeF 0) n k) m)).flatMap cellsF) ∧ MBox wr w2.heap.size n n (some ⟨g, 0, none⟩) N cap ∧ MBox wr w.heap.size 0 0 none 0 0 ∧ Bl w wr) (fun i _ => n - (intOf i).toNat)
      case atStart => exact ⟨0, rfl, by omega, hown, ht, hz, hB⟩
      case round =>
        clear hown ht hz hB
        obtain ⟨m, rfl, hm, hown, ht, hz, hB⟩ := hrel
        obtain ⟨i, hi'⟩ : ∃ i, i = k + m := ⟨_, rfl⟩
        rw [← hi'] at hm ⊢
        by_cases hlt2 : i < n
        · have HT := hideP (show colT val k (triT val (wholeF 0) n k) (m + 1) = putM (colT val k (triT val (wholeF 0) n k) m) i k (val (colT val k (triT val (wholeF 0) n k) m) i k) by rw [hi']; rfl)
          have hki : k ≤ i := by omega
          have HI := hideP hi'
          clear hi'
          generalize colT val k (triT val (wholeF 0) n k) m = f at *
          obtain ⟨a, q, e1, e2, hq1, hq3, hq5, hq6⟩ := place hd hlt2 hlt
          rw [← HN.out] at hq5
          have HP := hideP e2
          clear e1 e2
          have MX : ∀ u, Bl wr u → Mx 3 cellsF u n n (some ⟨g, 0, none⟩) N cap f := fun u hu => ⟨hd, HN.out, (Rw.of_own cellsF_len (xs := mk n n f) (by rw [mk_len, ← HN.out]; exact own_blF hown hu)).q⟩
          have CL := hideP (fun u (hu : Bl wr u) => HG.out f (some ⟨g, 0, none⟩) cap i k u hki hlt2 (hB.trans hu) (MX u hu))
          have OW := hideP hown
          have CX : ∀ j u, (cellsF (f i k))[j]? = some u → wr.cell? ⟨g, q * 3 + j, none⟩ = some u := fun j u hu => by
            have := (MX wr (Bl.refl _)).cells
            obtain ⟨b, o, e, _, _, hc⟩ := this
            cases e
            have := hc i k hlt2 hlt j u hu
            rw [← HP.out] at this
            simpa using this
          have FZ : ∀ j, wr.frozen? ⟨g, j, none⟩ = false := fun j => hown.frozenAt j
          have hgl : g < wr.heap.size := (hown.lt g rfl).2
          have WA : IntKind.i64.wrap (a : Int) = a := wrapS7 (by omega) (by omega)
          have WQ : IntKind.i64.wrap (q : Int) = q := wrapS7 (by omega) (by omega)
          clear hown MX
          generalize f i k = y at *
          generalize val f i k = x at *
          go_wp2_with fail
          refine (wpIn_wide (n := 8)).1 (region_q fm [some 29, some 30, some 31, some 32, some 33, some 34, some 35, some 36, some 37, some 38, some 39, some 40, some 41, none] (fun _ => false) 13 (by kernel_rfl) (by rfl)
            (fun j v u => match j with | 0 => v = .pointer (some ⟨w2.heap.size, 2, none⟩) | 1 => v = .slice (some ⟨g, 0, none⟩) N cap | 2 => v = .int .i64 i | 3 => v = .int .i64 n | 4 => v = .int .i64 a | 5 => v = .int .i64 k | 6 => v = .int .i64 q | 7 => v = .func (.func G) #[] #[.pointer (some ⟨pb, 0, none⟩)] | 8 => v = mV n n (some ⟨g, 0, none⟩) N cap | 9 => v = .int .i64 i | 10 => v = .int .i64 k | 11 => v = frV x | 12 => v = .pointer (some ⟨g, q * 3, none⟩) | _ => False)
            (fun j v u u' _ h => h) (fun vs u0 u => u = ((u0.setCell ⟨g, q * 3, none⟩ (.int .i64 x.n)).setCell ⟨g, q * 3 + 1, none⟩ (.int .i64 x.d)).setCell ⟨g, q * 3 + 2, none⟩ (.bool x.bad)) ?step ?still ?store ?fin)
          case step =>
            intro j o t act u ho hdt hpu hsz hu hfr hin
            have hj : j < 14 := (Array.getElem?_eq_some_iff.1 ho).1
            obtain ⟨c0, c1, c2, f0, f1, f2, lt⟩ := ht.later hu
            rcases (by omega : j = 0 ∨ j = 1 ∨ j = 2 ∨ j = 3 ∨ j = 4 ∨ j = 5 ∨ j = 6 ∨ j = 7 ∨ j = 8 ∨ j = 9 ∨ j = 10 ∨ j = 11 ∨ j = 12 ∨ j = 13) with rfl | rfl | rfl | rfl | rfl | rfl | rfl | rfl | rfl | rfl | rfl | rfl | rfl | rfl
            · simp only [List.getElem?_toArray, List.getElem?_cons_zero, List.getElem?_cons_succ, Option.some.injEq] at ho
              subst ho
              obtain rfl := Option.some.inj hdt
              have i5 : act.eval (.tmp (5 : Nat)) = .pointer (some ⟨w2.heap.size, 0, none⟩) := hfr 5 (by decide)
              exact plain_wp (by intro c h; cases h) (fun _ _ => trivial) (by simp only [execOp, i5, evalC, evalF, evalG]; simp [go_sem, c0, c1, c2, hq1, hq3, hq5, WA, WQ]) ⟨_, rfl, rfl, Bl.refl _⟩
            · simp only [List.getElem?_toArray, List.getElem?_cons_zero, List.getElem?_cons_succ, Option.some.injEq] at ho
              subst ho
              obtain rfl := Option.some.inj hdt
              have i29 : (act.eval (.tmp (29 : Nat))) = .pointer (some ⟨w2.heap.size, 2, none⟩) := hin ⟨0, .data⟩ (by simp) rfl 29 rfl
              exact plain_wp (by intro c h; cases h) (fun _ _ => trivial) (by simp only [execOp, i29, evalC, evalF, evalG]; simp [go_sem, c0, c1, c2, hq1, hq3, hq5, WA, WQ]) ⟨_, rfl, rfl, Bl.refl _⟩
            · simp only [List.getElem?_toArray, List.getElem?_cons_zero, List.getElem?_cons_succ, Option.some.injEq] at ho
              subst ho
              obtain rfl := Option.some.inj hdt
              have i8 : act.eval (.tmp (8 : Nat)) = .int .i64 i := hfr 8 (by decide)
              exact plain_wp (by intro c h; cases h) (fun _ _ => trivial) (by simp only [execOp, i8, evalC, evalF, evalG]; simp [go_sem]) ⟨_, rfl, rfl, Bl.refl _⟩
            · simp only [List.getElem?_toArray, List.getElem?_cons_zero, List.getElem?_cons_succ, Option.some.injEq] at ho
              subst ho
              obtain rfl := Option.some.inj hdt
              have i0 : act.eval (.tmp (0 : Nat)) = .int .i64 n := hfr 0 (by decide)
              exact plain_wp (by intro c h; cases h) (fun _ _ => trivial) (by simp only [execOp, i0, evalC, evalF, evalG]; simp [go_sem]) ⟨_, rfl, rfl, Bl.refl _⟩
            · simp only [List.getElem?_toArray, List.getElem?_cons_zero, List.getElem?_cons_succ, Option.some.injEq] at ho
              subst ho
              obtain rfl := Option.some.inj hdt
              have i31 : (act.eval (.tmp (31 : Nat))) = .int .i64 i := hin ⟨2, .data⟩ (by simp) rfl 31 rfl
              have i32 : (act.eval (.tmp (32 : Nat))) = .int .i64 n := hin ⟨3, .data⟩ (by simp) rfl 32 rfl
              exact plain_wp (by intro c h; cases h) (fun _ _ => trivial) (by simp only [execOp, i31, i32, evalC, evalF, evalG]; simp [go_sem, c0, c1, c2, hq1, hq3, hq5, WA, WQ]) ⟨_, rfl, rfl, Bl.refl _⟩
            · simp only [List.getElem?_toArray, List.getElem?_cons_zero, List.getElem?_cons_succ, Option.some.injEq] at ho
              subst ho
              obtain rfl := Option.some.inj hdt
              have i7 : act.eval (.tmp (7 : Nat)) = .int .i64 k := hfr 7 (by decide)
              exact plain_wp (by intro c h; cases h) (fun _ _ => trivial) (by simp only [execOp, i7, evalC, evalF, evalG]; simp [go_sem]) ⟨_, rfl, rfl, Bl.refl _⟩
            · simp only [List.getElem?_toArray, List.getElem?_cons_zero, List.getElem?_cons_succ, Option.some.injEq] at ho
              subst ho
              obtain rfl := Option.some.inj hdt
              have i33 : (act.eval (.tmp (33 : Nat))) = .int .i64 a := hin ⟨4, .data⟩ (by simp) rfl 33 rfl
              have i34 : (act.eval (.tmp (34 : Nat))) = .int .i64 k := hin ⟨5, .data⟩ (by simp) rfl 34 rfl
              exact plain_wp (by intro c h; cases h) (fun _ _ => trivial) (by simp only [execOp, i33, i34, evalC, evalF, evalG]; simp [go_sem, c0, c1, c2, hq1, hq3, hq5, WA, WQ]) ⟨_, rfl, rfl, Bl.refl _⟩
            · simp only [List.getElem?_toArray, List.getElem?_cons_zero, List.getElem?_cons_succ, Option.some.injEq] at ho
              subst ho
              obtain rfl := Option.some.inj hdt
              have i1 : act.eval (.tmp (1 : Nat)) = .func (.func G) #[] #[.pointer (some ⟨pb, 0, none⟩)] := hfr 1 (by decide)
              exact plain_wp (by intro c h; cases h) (fun _ _ => trivial) (by simp only [execOp, i1, evalC, evalF, evalG]; simp [go_sem]) ⟨_, rfl, rfl, Bl.refl _⟩
            · simp only [List.getElem?_toArray, List.getElem?_cons_zero, List.getElem?_cons_succ, Option.some.injEq] at ho
              subst ho
              obtain rfl := Option.some.inj hdt
              have i5 : act.eval (.tmp (5 : Nat)) = .pointer (some ⟨w2.heap.size, 0, none⟩) := hfr 5 (by decide)
              exact plain_wp (by intro c h; cases h) (fun _ _ => trivial) (by simp only [execOp, i5, evalC, evalF, evalG]; simp [go_sem, c0, c1, c2, hq1, hq3, hq5, WA, WQ]) ⟨_, rfl, rfl, Bl.refl _⟩
            · simp only [List.getElem?_toArray, List.getElem?_cons_zero, List.getElem?_cons_succ, Option.some.injEq] at ho
              subst ho
              obtain rfl := Option.some.inj hdt
              have i8 : act.eval (.tmp (8 : Nat)) = .int .i64 i := hfr 8 (by decide)
              exact plain_wp (by intro c h; cases h) (fun _ _ => trivial) (by simp only [execOp, i8, evalC, evalF, evalG]; simp [go_sem]) ⟨_, rfl, rfl, Bl.refl _⟩
            · simp only [List.getElem?_toArray, List.getElem?_cons_zero, List.getElem?_cons_succ, Option.some.injEq] at ho
              subst ho
              obtain rfl := Option.some.inj hdt
              have i7 : act.eval (.tmp (7 : Nat)) = .int .i64 k := hfr 7 (by decide)
              exact plain_wp (by intro c h; cases h) (fun _ _ => trivial) (by simp only [execOp, i7, evalC, evalF, evalG]; simp [go_sem]) ⟨_, rfl, rfl, Bl.refl _⟩
            · simp only [List.getElem?_toArray, List.getElem?_cons_zero, List.getElem?_cons_succ, Option.some.injEq] at ho
              subst ho
              obtain rfl := Option.some.inj hdt
              have i36 : (act.eval (.tmp (36 : Nat))) = .func (.func G) #[] #[.pointer (some ⟨pb, 0, none⟩)] := hin ⟨7, .data⟩ (by simp) rfl 36 rfl
              have i37 : (act.eval (.tmp (37 : Nat))) = mV n n (some ⟨g, 0, none⟩) N cap := hin ⟨8, .data⟩ (by simp) rfl 37 rfl
              have i38 : (act.eval (.tmp (38 : Nat))) = .int .i64 i := hin ⟨9, .data⟩ (by simp) rfl 38 rfl
              have i39 : (act.eval (.tmp (39 : Nat))) = .int .i64 k := hin ⟨10, .data⟩ (by simp) rfl 39 rfl
              refine enter_wp G #[mV n n (some ⟨g, 0, none⟩) N cap, .int .i64 i, .int .i64 k, .pointer (some ⟨pb, 0, none⟩)] (by intro c h; cases h) (fun _ _ => trivial) (by simp only [execOp, evalC, evalF, evalG, resolve, i36, i37, i38, i39, List.map_toArray, List.map_cons, List.map_nil]; simp [invoke, eg, Result.andThen, go_sem]) (fun h => by cases h) (callsIn_wide.2 (CL.out u hu)) ?_
              rintro e w' ⟨rfl, hb⟩
              exact ⟨_, rfl, _, rfl, rfl, hb⟩
            · simp only [List.getElem?_toArray, List.getElem?_cons_zero, List.getElem?_cons_succ, Option.some.injEq] at ho
              subst ho
              obtain rfl := Option.some.inj hdt
              have i30 : (act.eval (.tmp (30 : Nat))) = .slice (some ⟨g, 0, none⟩) N cap := hin ⟨1, .data⟩ (by simp) rfl 30 rfl
              have i35 : (act.eval (.tmp (35 : Nat))) = .int .i64 q := hin ⟨6, .data⟩ (by simp) rfl 35 rfl
              exact plain_wp (by intro c h; cases h) (fun _ _ => trivial) (by simp only [execOp, i30, i35, evalC, evalF, evalG]; simp [go_sem, c0, c1, c2, hq1, hq3, hq5, WA, WQ]) ⟨_, rfl, rfl, Bl.refl _⟩
            · simp only [List.getElem?_toArray, List.getElem?_cons_zero, List.getElem?_cons_succ, Option.some.injEq] at ho
              subst ho
              cases hdt
          case still =>
            intro j o t act u0 u ho hdt hpu
            cases hpu
          case store =>
            intro o act u vs ho hsz hu hfr hin
            simp only [List.getElem?_toArray, List.getElem?_cons_zero, List.getElem?_cons_succ, Option.some.injEq] at ho
            subst ho
            obtain ⟨i40, k40⟩ : act.eval (.tmp (40 : Nat)) = vs 11 ∧ ((vs 11) = frV x) := hin 11 40 rfl rfl
            obtain ⟨i41, k41⟩ : act.eval (.tmp (41 : Nat)) = vs 12 ∧ ((vs 12) = .pointer (some ⟨g, q * 3, none⟩)) := hin 12 41 rfl rfl
            have y0 : u.cell? ⟨g, q * 3, none⟩ = some (.int .i64 y.n) := (bl_cell hu _ _ hgl).trans (CX 0 _ rfl); have e0 : u.frozen? ⟨g, q * 3, none⟩ = false := (bl_froz hu _ _ hgl).trans (FZ _); have y1 : u.cell? ⟨g, q * 3 + 1, none⟩ = some (.int .i64 y.d) := (bl_cell hu _ _ hgl).trans (CX 1 _ rfl); have e1 : u.frozen? ⟨g, q * 3 + 1, none⟩ = false := (bl_froz hu _ _ hgl).trans (FZ _); have y2 : u.cell? ⟨g, q * 3 + 2, none⟩ = some (.bool y.bad) := (bl_cell hu _ _ hgl).trans (CX 2 _ rfl); have e2 : u.frozen? ⟨g, q * 3 + 2, none⟩ = false := (bl_froz hu _ _ hgl).trans (FZ _)
            rw [k41] at i41
            rw [k40] at i40
            exact skip_wp (by intro c h; cases h) (fun _ _ => trivial) (by simp only [execOp, i41, i40]; simp [go_sem, y0, e0, y1, e1, y2, e2]) ⟨rfl, rfl⟩
          case fin =>
            intro vs vb u0 u hu hin hps
            have a0 := hin 0 29 rfl
            have a1 := hin 1 30 rfl
            have a2 := hin 2 31 rfl
            have a3 := hin 3 32 rfl
            have a4 := hin 4 33 rfl
            have a5 := hin 5 34 rfl
            have a6 := hin 6 35 rfl
            have a7 := hin 7 36 rfl
            have a8 := hin 8 37 rfl
            have a9 := hin 9 38 rfl
            have a10 := hin 10 39 rfl
            have a11 := hin 11 40 rfl
            have a12 := hin 12 41 rfl
            simp only [putL, Act.put, List.setIfInBounds_toArray, List.set_cons_zero, List.set_cons_succ, Nat.zero_add, Nat.reduceAdd, Nat.reduceBEq, Bool.or_false, Bool.or_true, Bool.false_or, Bool.true_or, Bool.false_eq_true, if_false, if_true, reduceIte, Nat.reduceEqDiff, beq_self_eq_true, Bool.or_self] at a0 a1 a2 a3 a4 a5 a6 a7 a8 a9 a10 a11 a12 ⊢
            rw [if_pos (by decide)] at hps
            simp only [a0, a1, a2, a3, a4, a5, a6, a7, a8, a9, a10, a11, a12]
            subst hps
            have hq' : q < (mk n n f).length := by rw [mk_len, ← HN.out]; exact hq5
            have OP := hideP (own_putF (own_blF OW.out hu) hq' x)
            rw [HP.out, mk_put hlt2 hlt, ← HP.out, ← HT.out] at OP
            have tS := hideP (mbox_putX (ht.later hu) (show w2.heap.size ≠ g by omega) (q * 3) [.int .i64 x.n, .int .i64 x.d, .bool x.bad])
            have zS := hideP (mbox_putX (hz.later hu) (show w.heap.size ≠ g by omega) (q * 3) [.int .i64 x.n, .int .i64 x.d, .bool x.bad])
            have bS := hideP (bl_putX (hB.trans hu) (show w.heap.size ≤ g by omega) (q * 3) [.int .i64 x.n, .int .i64 x.d, .bool x.bad])
            clear ht hz OW
            go_wp2
            go_roundw
            case rel => exact ⟨m + 1, by rw [HI.out]; simp; omega, by have := HI.out; omega, OP.out, tS.out, zS.out, bS.out⟩
            case measure => simp [intOf]; omega
        · have hni : n = i := by omega
          subst hni
          have e : n - k = m := by omega
          have HT := hideP (show triT val (wholeF 0) n (k + 1) = colT val k (triT val (wholeF 0) n k) m by rw [← e]; rfl)
          go_wp2_with fail
          go_roundw
          case rel => exact ⟨k + 1, by simp, hlt, by rw [HT.out]; exact hown, ht, hz, hB⟩
          case measure => simp [intOf]; omega
    · obtain rfl : k = n := by omega
      have RW := hideP (show Rw 3 cellsF wr (.slice (some ⟨g, 0, none⟩) N cap) (mk k k (triT val (wholeF 0) k k)) from Rw.of_own cellsF_len (xs := mk k k (triT val (wholeF 0) k k)) (by rw [mk_len, ← HN.out]; exact hown))
      have FR := hideP (show Fresh (w.heap.size + 1) (.slice (some ⟨g, 0, none⟩) N cap) from fun b hb => (hown.lt b hb).1)
      obtain ⟨c0, c1, c2, f0, f1, f2, lt⟩ := hz
      obtain ⟨d0, d1, d2, g0, g1, g2, lt2⟩ := ht
      clear hown
      go_wp2
      simp [bodyPost, results, Tryz.results30, go_sem, c0, c1, c2]
      have q := ((RW.out.set (p := ⟨w.heap.size, 0, none⟩) (.int .i64 k) FR.out).set (p := ⟨w.heap.size, 1, none⟩) (.int .i64 k) FR.out).set (p := ⟨w.heap.size, 2, none⟩) (.slice (some ⟨g, 0, none⟩) N cap) FR.out
      exact ⟨_, _, ⟨rfl, rfl⟩, ⟨⟨hd, HN.out, q.q⟩, fun b hb => by have := FR.out b hb; omega⟩, Bl.put3 hB (Nat.le_refl _) _ _ _⟩
end Go.Proofs.YtbfdkahbnfpabaaGreat

/- Contracts of tri's Clear, Root, of fractions (layer 7). Written by genTr.py. -/
namespace Go.Proofs.YtbfdkahbnfpabaaGreat
open Go.RowKit
set_option linter.unusedSimpArgs false
set_option linter.unusedVariables false

theorem Tryz.mDivF (x : Value) (w : World) : (method 268 32 x "Div").run Tryz.prog w = .ok (119, x) w := by kernel_rfl
theorem Tryz.mRootF (x : Value) (w : World) : (method 268 32 x "Root").run Tryz.prog w = .ok (123, x) w := by kernel_rfl
theorem tClear1F (n : Nat) (p0 : Option Addr) (N cap0 : Nat) (P : Nat → Nat → Fr) (p : Option Addr) (cap : Nat) (w : World) (hP : Mx 3 cellsF w n n p0 N cap0 P) (pb : Nat) (hm : MBox w pb n n p0 N cap0) (i k : Nat) (hi : i < n) (hk : k < n) :
    Calls Tryz.prog 45 #[mV n n p N cap, .int .i64 i, .int .i64 k, .pointer (some ⟨pb, 0, none⟩)] w fun e w' => e = .returned (frV (P i k)) ∧ Bl w w' := by
  have A := hideP (fun u (hu : Bl w u) => mAtF n n p0 N cap0 P u (hP.later hu) i k hi hk)
  obtain ⟨W, hW⟩ : ∃ W, W = (w.alloc (.cells #[.int .i64 n, .int .i64 n, .slice p N cap] 28)).alloc (.cells #[.int .i64 0, .int .i64 0, .bool false] 32) := ⟨_, rfl⟩
  have b0 : Bl w W := by rw [hW]; exact ((Bl.refl _).alloc _).alloc _
  have x0 : FBox W (w.heap.size + 1) zeroR := by rw [hW]; have := FBox.new (w.alloc (.cells #[.int .i64 n, .int .i64 n, .slice p N cap] 28)) zeroR 32; rw [World.size_alloc] at this; exact this
  obtain ⟨c0, c1, c2, f0, f1, f2, lt⟩ := hm
  have HW := hideP hW
  clear hW hP
  generalize P i k = x at *
  go_enter Tryz.func45, Tryz.ntmps45
  go_wp2_with fail
  rw [← HW.out]
  refine (A.out _ b0).mono ?_
  rintro e w1 ⟨rfl, h1⟩
  clear c0 c1 c2 f0 f1 f2 A
  obtain ⟨d0, d1, d2, g0, g1, g2, lt2⟩ := x0.later h1
  go_wp2
  simp [bodyPost, results, Tryz.results45, go_sem, d0, d1, d2]
  exact Bl.set3 (b0.trans h1) (Nat.le_succ _) _ _ _

/-- A matrix with z above its diagonal. -/
def clrF (f : Nat → Nat → Fr) (i k : Nat) : Fr := if k ≤ i then f i k else wholeF 0
theorem tClearF (n : Nat) (p : Option Addr) (N cap : Nat) (f : Nat → Nat → Fr) (w : World) (h : Mx 3 cellsF w n n p N cap f) :
    Calls Tryz.prog 18 #[mV n n p N cap] w fun e w' => ∃ p' cap', e = .returned (.tuple #[mV n n p' N cap', .bool true]) ∧ (Mx 3 cellsF w' n n p' N cap' (clrF f) ∧ Fresh w.heap.size (.slice p' N cap')) ∧ Bl w w' := by
  have hsq : sqB n n N = true := by unfold sqB; rw [h.fit]; simp
  obtain ⟨W, hW⟩ : ∃ W, W = (w.alloc (.cells #[.int .i64 n, .int .i64 n, .slice p N cap] 28)).alloc (.cells #[.int .i64 0, .int .i64 0, .slice none 0 0] 28) := ⟨_, rfl⟩
  have b0 : Bl w W := by rw [hW]; exact ((Bl.refl _).alloc _).alloc _
  have m0 : MBox W w.heap.size n n p N cap := by rw [hW]; exact (MBox.new w _ _ _ _ _ _).later ((Bl.refl _).alloc _)
  have x0 : MBox W (w.heap.size + 1) 0 0 none 0 0 := by rw [hW]; have := MBox.new (w.alloc (.cells #[.int .i64 n, .int .i64 n, .slice p N cap] 28)) 0 0 none 0 0 28; rw [World.size_alloc] at this; exact this
  have hs : W.heap.size = w.heap.size + 1 + 1 := by rw [hW]; simp
  have FI := hideP (fun u (hu : Bl W u) => (tTriangleF 45 w.heap.size (enters_of Tryz.func45 (by kernel_rfl) rfl) (fun _ i k => f i k) n N h.1.r1 h.1.r2 h.2.1 u
    (fun g p' cap' i k v hki hi hv _ => tClear1F n p N cap f p' cap' v (h.later (b0.trans (hu.trans hv))) _ (m0.later (hu.trans hv)) i k hi (by omega))).mono (R' := fun e w' => ∃ p' cap', e = .returned (mV n n p' N cap') ∧ (Mx 3 cellsF w' n n p' N cap' (clrF f) ∧ Fresh u.heap.size (.slice p' N cap')) ∧ Bl u w') (by
      rintro e w' ⟨p', cap', rfl, ⟨hR, hF⟩, hb⟩
      refine ⟨p', cap', rfl, ⟨hR.congr7 fun i k hi hk => ?_, hF⟩, hb⟩
      rw [triT_const f _ n n (Nat.le_refl _) i k hi]
      unfold clrF
      by_cases hki : k ≤ i
      · rw [if_pos ⟨hki, hk⟩, if_pos hki]
      · rw [if_neg (by omega), if_neg hki]))
  have HD := hideP h
  have HW := hideP hW
  clear hW h
  go_enter Tryz.func18, Tryz.ntmps18
  go_wp2_with fail
  rw [← HW.out]
  refine (tSquareF _ _ _ _ _ _).mono ?_
  rintro e w1 ⟨rfl, h1⟩
  rw [hsq]
  obtain ⟨c0, c1, c2, f0, f1, f2, lt⟩ := m0.later h1
  go_wp2_with fail
  refine (FI.out _ h1).mono ?_
  rintro e w2 ⟨p', cap', rfl, ⟨hR, hF⟩, h2⟩
  have HR := hideP hR
  have HF := hideP (show Fresh (w.heap.size + 1 + 1) (.slice p' N cap') from fun g hg => by have := hF g hg; have := h1.size; omega)
  clear hR hF FI c0 c1 c2 f0 f1 f2
  obtain ⟨c0, c1, c2, f0, f1, f2, lt2⟩ := x0.later (h1.trans h2)
  go_wp2
  simp [bodyPost, results, Tryz.results18, go_sem, c0, c1, c2]
  exact ⟨p', cap', ⟨rfl, rfl⟩, ⟨mx_put7 HR.out HF.out _ _ _, fun g hg => by have := HF.out g hg; omega⟩, Bl.put3 ((b0.trans h1).trans h2) (Nat.le_succ _) _ _ _⟩
theorem tClearF_no (r c : Int) (p : Option Addr) (n cap : Nat) (w : World) (hsq : sqB r c n = false) :
    Calls Tryz.prog 18 #[mV r c p n cap] w fun e w' => e = .returned (.tuple #[mV 0 0 none 0 0, .bool false]) ∧ Bl w w' := by
  obtain ⟨W, hW⟩ : ∃ W, W = (w.alloc (.cells #[.int .i64 r, .int .i64 c, .slice p n cap] 28)).alloc (.cells #[.int .i64 0, .int .i64 0, .slice none 0 0] 28) := ⟨_, rfl⟩
  have b0 : Bl w W := by rw [hW]; exact ((Bl.refl _).alloc _).alloc _
  have x0 : MBox W (w.heap.size + 1) 0 0 none 0 0 := by rw [hW]; have := MBox.new (w.alloc (.cells #[.int .i64 r, .int .i64 c, .slice p n cap] 28)) 0 0 none 0 0 28; rw [World.size_alloc] at this; exact this
  have HW := hideP hW
  clear hW
  go_enter Tryz.func18, Tryz.ntmps18
  go_wp2_with fail
  rw [← HW.out]
  refine (tSquareF _ _ _ _ _ _).mono ?_
  rintro e w1 ⟨rfl, h1⟩
  rw [hsq]
  obtain ⟨c0, c1, c2, f0, f1, f2, lt2⟩ := x0.later h1
  go_wp2
  simp [bodyPost, results, Tryz.results18, go_sem, c0, c1, c2]
  exact Bl.put3 (b0.trans h1) (Nat.le_succ _) _ _ _
end Go.Proofs.YtbfdkahbnfpabaaGreat

/- Contracts of tri's Root, of fractions (layer 7). Written by genTr.py. -/
namespace Go.Proofs.YtbfdkahbnfpabaaGreat
open Go.RowKit
set_option linter.unusedSimpArgs false
set_option linter.unusedVariables false

/-- What Root tells of a place, of what it is so far. -/
def rootVF (P g : Nat → Nat → Fr) (i k : Nat) : Fr := if i = k then rootR (subR (P i k) (dotF (rowM k g i) (rowM k g k))) else divR (subR (P i k) (dotF (rowM k g i) (rowM k g k))) (g k k)
set_option maxRecDepth 100000 in
set_option maxHeartbeats 2000000 in
theorem tRoot1F (n : Nat) (p0 : Option Addr) (N cap0 : Nat) (P : Nat → Nat → Fr) (p : Option Addr) (cap : Nat) (g : Nat → Nat → Fr) (w : World) (hP : Mx 3 cellsF w n n p0 N cap0 P) (pb : Nat) (hm : MBox w pb n n p0 N cap0) (hg : Mx 3 cellsF w n n p N cap g) (i k : Nat) (hi : i < n) (hki : k ≤ i) :
    Calls Tryz.prog 31 #[mV n n p N cap, .int .i64 i, .int .i64 k, .pointer (some ⟨pb, 0, none⟩)] w fun e w' => e = .returned (frV (rootVF P g i k)) ∧ Bl w w' := by
  have fm : Tryz.prog.follows .mixedOrders = true := by kernel_rfl
  have egA := enters_of Tryz.func32 (by kernel_rfl) rfl
  have egR := enters_of Tryz.func34 (by kernel_rfl) rfl
  have egD := enters_of Tryz.func33 (by kernel_rfl) rfl
  have egS := enters_of Tryz.func124 (by kernel_rfl) rfl
  have egV := enters_of Tryz.func119 (by kernel_rfl) rfl
  have hk : k < n := by omega
  have hkn : k ≤ n := by omega
  have hn16 := hg.1.r2
  have XS := hideP (rsub_any (P i k) (dotF (rowM k g i) (rowM k g k)))
  have XV := hideP (show rootVF P g i k = if i = k then rootR (subR (P i k) (dotF (rowM k g i) (rowM k g k))) else divR (subR (P i k) (dotF (rowM k g i) (rowM k g k))) (g k k) from rfl)
  generalize subR (P i k) (dotF (rowM k g i) (rowM k g k)) = x at *
  obtain ⟨W, hW⟩ : ∃ W, W = (w.alloc (.cells #[.int .i64 n, .int .i64 n, .slice p N cap] 28)).alloc (.cells #[.int .i64 0, .int .i64 0, .bool false] 32) := ⟨_, rfl⟩
  have b0 : Bl w W := by rw [hW]; exact ((Bl.refl _).alloc _).alloc _
  have ms : MBox W w.heap.size n n p N cap := by rw [hW]; exact (MBox.new w _ _ _ _ _ _).later ((Bl.refl _).alloc _)
  have x0 : FBox W (w.heap.size + 1) zeroR := by rw [hW]; have := FBox.new (w.alloc (.cells #[.int .i64 n, .int .i64 n, .slice p N cap] 28)) zeroR 32; rw [World.size_alloc] at this; exact this
  have hs : W.heap.size = w.heap.size + 1 + 1 := by rw [hW]; simp
  have HW := hideP hW
  clear hW
  go_enter Tryz.func31, Tryz.ntmps31
  go_wp2_with fail
  rw [← HW.out]
  refine (wpIn_wide (n := 8)).1 (region_q fm [some 9, some 10, some 11, some 12, some 13, some 14, some 15, some 16, some 17, some 18, some 19, some 20, some 21, some 22, some 23, some 24, some 25, some 8, none] (fun _ => false) 18 (by kernel_rfl) (by rfl)
    (fun j v u => match j with | 0 => v = mV n n p0 N cap0 | 1 => v = .int .i64 i | 2 => v = .int .i64 k | 3 => v = frV (P i k) | 4 => v = .iface 32 (frV (P i k)) | 5 => v = mV n n p N cap | 6 => v = .int .i64 i | 7 => ∃ q c, v = .slice q n c ∧ Rw 3 cellsF u (.slice q n c) (rowM n g i) ∧ n ≤ c | 8 => v = .int .i64 k | 9 => ∃ q c, v = .slice q k c ∧ Rw 3 cellsF u (.slice q k c) (rowM k g i) | 10 => v = mV n n p N cap | 11 => v = .int .i64 k | 12 => ∃ q c, v = .slice q n c ∧ Rw 3 cellsF u (.slice q n c) (rowM n g k) ∧ n ≤ c | 13 => v = .int .i64 k | 14 => ∃ q c, v = .slice q k c ∧ Rw 3 cellsF u (.slice q k c) (rowM k g k) | 15 => v = frV (dotF (rowM k g i) (rowM k g k)) | 16 => v = frV x | 17 => ∃ b, v = .pointer (some ⟨b, 0, none⟩) ∧ W.heap.size ≤ b ∧ FBox u b zeroR | _ => False)
    (by
            intro j v u u' hb h
            split at h <;> first | exact h | (obtain ⟨q, c, e, h1, h2⟩ := h; exact ⟨q, c, e, h1.later hb, h2⟩) | (obtain ⟨q, c, e, h1⟩ := h; exact ⟨q, c, e, h1.later hb⟩) | (obtain ⟨b, e, h1, h2⟩ := h; exact ⟨b, e, h1, h2.later hb⟩)) (fun vs u0 u => ∃ b, vs 17 = .pointer (some ⟨b, 0, none⟩) ∧ FBox u b x ∧ FBox u (w.heap.size + 1) zeroR ∧ Bl w u ∧ Bl W u) ?step ?still ?store ?fin)
  case step =>
    intro j o t act u ho hdt hpu hsz hu hfr hin
    have hj : j < 19 := (Array.getElem?_eq_some_iff.1 ho).1
    obtain ⟨c0, c1, c2, _, _, _, _⟩ := hm.later (b0.trans hu)
    obtain ⟨d0, d1, d2, _, _, _, _⟩ := ms.later hu
    rcases (by omega : j = 0 ∨ j = 1 ∨ j = 2 ∨ j = 3 ∨ j = 4 ∨ j = 5 ∨ j = 6 ∨ j = 7 ∨ j = 8 ∨ j = 9 ∨ j = 10 ∨ j = 11 ∨ j = 12 ∨ j = 13 ∨ j = 14 ∨ j = 15 ∨ j = 16 ∨ j = 17 ∨ j = 18) with rfl | rfl | rfl | rfl | rfl | rfl | rfl | rfl | rfl | rfl | rfl | rfl | rfl | rfl | rfl | rfl | rfl | rfl | rfl
    · simp only [List.getElem?_toArray, List.getElem?_cons_zero, List.getElem?_cons_succ, Option.some.injEq] at ho
      subst ho
      obtain rfl := Option.some.inj hdt
      have i3 : act.eval (.tmp (3 : Nat)) = .pointer (some ⟨pb, 0, none⟩) := hfr 3 (by decide)
      exact plain_wp (by intro c h; cases h) (fun _ _ => trivial) (by simp only [execOp, i3, evalC, evalF, evalG]; simp [go_sem, c0, c1, c2, d0, d1, d2]) ⟨_, rfl, rfl, Bl.refl _⟩
    · simp only [List.getElem?_toArray, List.getElem?_cons_zero, List.getElem?_cons_succ, Option.some.injEq] at ho
      subst ho
      obtain rfl := Option.some.inj hdt
      have i1 : act.eval (.tmp (1 : Nat)) = .int .i64 i := hfr 1 (by decide)
      exact plain_wp (by intro c h; cases h) (fun _ _ => trivial) (by simp only [execOp, i1, evalC, evalF, evalG]; simp [go_sem]) ⟨_, rfl, rfl, Bl.refl _⟩
    · simp only [List.getElem?_toArray, List.getElem?_cons_zero, List.getElem?_cons_succ, Option.some.injEq] at ho
      subst ho
      obtain rfl := Option.some.inj hdt
      have i2 : act.eval (.tmp (2 : Nat)) = .int .i64 k := hfr 2 (by decide)
      exact plain_wp (by intro c h; cases h) (fun _ _ => trivial) (by simp only [execOp, i2, evalC, evalF, evalG]; simp [go_sem]) ⟨_, rfl, rfl, Bl.refl _⟩
    · simp only [List.getElem?_toArray, List.getElem?_cons_zero, List.getElem?_cons_succ, Option.some.injEq] at ho
      subst ho
      obtain rfl := Option.some.inj hdt
      have i9 : (act.eval (.tmp (9 : Nat))) = mV n n p0 N cap0 := hin ⟨0, .data⟩ (by simp) rfl 9 rfl
      have i10 : (act.eval (.tmp (10 : Nat))) = .int .i64 i := hin ⟨1, .data⟩ (by simp) rfl 10 rfl
      have i11 : (act.eval (.tmp (11 : Nat))) = .int .i64 k := hin ⟨2, .data⟩ (by simp) rfl 11 rfl
      refine enter_wp 32 #[mV n n p0 N cap0, .int .i64 i, .int .i64 k] (by intro c h; cases h) (fun _ _ => trivial) (by simp only [execOp, evalC, evalF, evalG, resolve, i9, i10, i11, List.map_toArray, List.map_cons, List.map_nil]; simp [invoke, egA, Result.andThen, go_sem]) (by intro h; cases h) (callsIn_wide.2 (mAtF n n p0 N cap0 P u (hP.later (b0.trans hu)) i k hi hk)) ?_
      rintro e w' ⟨rfl, hb⟩
      exact ⟨_, rfl, _, rfl, rfl, hb⟩
    · simp only [List.getElem?_toArray, List.getElem?_cons_zero, List.getElem?_cons_succ, Option.some.injEq] at ho
      subst ho
      obtain rfl := Option.some.inj hdt
      have i12 : (act.eval (.tmp (12 : Nat))) = frV (P i k) := hin ⟨3, .data⟩ (by simp) rfl 12 rfl
      exact plain_wp (by intro c h; cases h) (fun _ _ => trivial) (by simp only [execOp, i12, evalC, evalF, evalG]; simp [go_sem, c0, c1, c2, d0, d1, d2]) ⟨_, rfl, rfl, Bl.refl _⟩
    · simp only [List.getElem?_toArray, List.getElem?_cons_zero, List.getElem?_cons_succ, Option.some.injEq] at ho
      subst ho
      obtain rfl := Option.some.inj hdt
      have i4 : act.eval (.tmp (4 : Nat)) = .pointer (some ⟨w.heap.size, 0, none⟩) := hfr 4 (by decide)
      exact plain_wp (by intro c h; cases h) (fun _ _ => trivial) (by simp only [execOp, i4, evalC, evalF, evalG]; simp [go_sem, c0, c1, c2, d0, d1, d2]) ⟨_, rfl, rfl, Bl.refl _⟩
    · simp only [List.getElem?_toArray, List.getElem?_cons_zero, List.getElem?_cons_succ, Option.some.injEq] at ho
      subst ho
      obtain rfl := Option.some.inj hdt
      have i1 : act.eval (.tmp (1 : Nat)) = .int .i64 i := hfr 1 (by decide)
      exact plain_wp (by intro c h; cases h) (fun _ _ => trivial) (by simp only [execOp, i1, evalC, evalF, evalG]; simp [go_sem]) ⟨_, rfl, rfl, Bl.refl _⟩
    · simp only [List.getElem?_toArray, List.getElem?_cons_zero, List.getElem?_cons_succ, Option.some.injEq] at ho
      subst ho
      obtain rfl := Option.some.inj hdt
      have i14 : (act.eval (.tmp (14 : Nat))) = mV n n p N cap := hin ⟨5, .data⟩ (by simp) rfl 14 rfl
      have i15 : (act.eval (.tmp (15 : Nat))) = .int .i64 i := hin ⟨6, .data⟩ (by simp) rfl 15 rfl
      refine enter_wp 34 #[mV n n p N cap, .int .i64 i] (by intro c h; cases h) (fun _ _ => trivial) (by simp only [execOp, evalC, evalF, evalG, resolve, i14, i15, List.map_toArray, List.map_cons, List.map_nil]; simp [invoke, egR, Result.andThen, go_sem]) (by intro h; cases h) (callsIn_wide.2 (mRowF n n p N cap g u (hg.later (b0.trans hu)) i hi)) ?_
      rintro e w' ⟨q, c, rfl, ⟨hR, _, hc⟩, hb⟩
      exact ⟨_, rfl, _, rfl, ⟨q, c, rfl, hR, hc⟩, hb⟩
    · simp only [List.getElem?_toArray, List.getElem?_cons_zero, List.getElem?_cons_succ, Option.some.injEq] at ho
      subst ho
      obtain rfl := Option.some.inj hdt
      have i2 : act.eval (.tmp (2 : Nat)) = .int .i64 k := hfr 2 (by decide)
      exact plain_wp (by intro c h; cases h) (fun _ _ => trivial) (by simp only [execOp, i2, evalC, evalF, evalG]; simp [go_sem]) ⟨_, rfl, rfl, Bl.refl _⟩
    · simp only [List.getElem?_toArray, List.getElem?_cons_zero, List.getElem?_cons_succ, Option.some.injEq] at ho
      subst ho
      obtain rfl := Option.some.inj hdt
      have i16 : ∃ q c, (act.eval (.tmp (16 : Nat))) = .slice q n c ∧ Rw 3 cellsF u (.slice q n c) (rowM n g i) ∧ n ≤ c := hin ⟨7, .data⟩ (by simp) rfl 16 rfl
      have i17 : (act.eval (.tmp (17 : Nat))) = .int .i64 k := hin ⟨8, .data⟩ (by simp) rfl 17 rfl
      obtain ⟨q, c, e1, hr, hc⟩ := i16
      have hck : ¬ c < k := by omega
      exact plain_wp (by intro c h; cases h) (fun _ _ => trivial) (by simp only [execOp, e1, i17, Option.map_some, Option.map_none]; simp [go_sem, hck]) ⟨_, rfl, ⟨q, c, rfl, rw_row7 hr hkn⟩, Bl.refl _⟩
    · simp only [List.getElem?_toArray, List.getElem?_cons_zero, List.getElem?_cons_succ, Option.some.injEq] at ho
      subst ho
      obtain rfl := Option.some.inj hdt
      have i4 : act.eval (.tmp (4 : Nat)) = .pointer (some ⟨w.heap.size, 0, none⟩) := hfr 4 (by decide)
      exact plain_wp (by intro c h; cases h) (fun _ _ => trivial) (by simp only [execOp, i4, evalC, evalF, evalG]; simp [go_sem, c0, c1, c2, d0, d1, d2]) ⟨_, rfl, rfl, Bl.refl _⟩
    · simp only [List.getElem?_toArray, List.getElem?_cons_zero, List.getElem?_cons_succ, Option.some.injEq] at ho
      subst ho
      obtain rfl := Option.some.inj hdt
      have i2 : act.eval (.tmp (2 : Nat)) = .int .i64 k := hfr 2 (by decide)
      exact plain_wp (by intro c h; cases h) (fun _ _ => trivial) (by simp only [execOp, i2, evalC, evalF, evalG]; simp [go_sem]) ⟨_, rfl, rfl, Bl.refl _⟩
    · simp only [List.getElem?_toArray, List.getElem?_cons_zero, List.getElem?_cons_succ, Option.some.injEq] at ho
      subst ho
      obtain rfl := Option.some.inj hdt
      have i19 : (act.eval (.tmp (19 : Nat))) = mV n n p N cap := hin ⟨10, .data⟩ (by simp) rfl 19 rfl
      have i20 : (act.eval (.tmp (20 : Nat))) = .int .i64 k := hin ⟨11, .data⟩ (by simp) rfl 20 rfl
      refine enter_wp 34 #[mV n n p N cap, .int .i64 k] (by intro c h; cases h) (fun _ _ => trivial) (by simp only [execOp, evalC, evalF, evalG, resolve, i19, i20, List.map_toArray, List.map_cons, List.map_nil]; simp [invoke, egR, Result.andThen, go_sem]) (by intro h; cases h) (callsIn_wide.2 (mRowF n n p N cap g u (hg.later (b0.trans hu)) k hk)) ?_
      rintro e w' ⟨q, c, rfl, ⟨hR, _, hc⟩, hb⟩
      exact ⟨_, rfl, _, rfl, ⟨q, c, rfl, hR, hc⟩, hb⟩
    · simp only [List.getElem?_toArray, List.getElem?_cons_zero, List.getElem?_cons_succ, Option.some.injEq] at ho
      subst ho
      obtain rfl := Option.some.inj hdt
      have i2 : act.eval (.tmp (2 : Nat)) = .int .i64 k := hfr 2 (by decide)
      exact plain_wp (by intro c h; cases h) (fun _ _ => trivial) (by simp only [execOp, i2, evalC, evalF, evalG]; simp [go_sem]) ⟨_, rfl, rfl, Bl.refl _⟩
    · simp only [List.getElem?_toArray, List.getElem?_cons_zero, List.getElem?_cons_succ, Option.some.injEq] at ho
      subst ho
      obtain rfl := Option.some.inj hdt
      have i21 : ∃ q c, (act.eval (.tmp (21 : Nat))) = .slice q n c ∧ Rw 3 cellsF u (.slice q n c) (rowM n g k) ∧ n ≤ c := hin ⟨12, .data⟩ (by simp) rfl 21 rfl
      have i22 : (act.eval (.tmp (22 : Nat))) = .int .i64 k := hin ⟨13, .data⟩ (by simp) rfl 22 rfl
      obtain ⟨q, c, e1, hr, hc⟩ := i21
      have hck : ¬ c < k := by omega
      exact plain_wp (by intro c h; cases h) (fun _ _ => trivial) (by simp only [execOp, e1, i22, Option.map_some, Option.map_none]; simp [go_sem, hck]) ⟨_, rfl, ⟨q, c, rfl, rw_row7 hr hkn⟩, Bl.refl _⟩
    · simp only [List.getElem?_toArray, List.getElem?_cons_zero, List.getElem?_cons_succ, Option.some.injEq] at ho
      subst ho
      obtain rfl := Option.some.inj hdt
      have i18 : ∃ q c, (act.eval (.tmp (18 : Nat))) = .slice q k c ∧ Rw 3 cellsF u (.slice q k c) (rowM k g i) := hin ⟨9, .data⟩ (by simp) rfl 18 rfl
      have i23 : ∃ q c, (act.eval (.tmp (23 : Nat))) = .slice q k c ∧ Rw 3 cellsF u (.slice q k c) (rowM k g k) := hin ⟨14, .data⟩ (by simp) rfl 23 rfl
      obtain ⟨q1, c1', e1, hr1⟩ := i18
      obtain ⟨q2, c2', e2, hr2⟩ := i23
      refine enter_wp 33 #[.slice q1 k c1', .slice q2 k c2'] (by intro c h; cases h) (fun _ _ => trivial) (by simp only [execOp, evalC, evalF, evalG, resolve, e1, e2, List.map_toArray, List.map_cons, List.map_nil]; simp [invoke, egD, Result.andThen, go_sem]) (by intro h; cases h) (callsIn_wide.2 (vDotF _ _ (rowM k g i) (rowM k g k) u hr1.q hr2.q (by rw [rowM_len]; omega) (by rw [rowM_len]; omega))) ?_
      rintro e w' ⟨rfl, hb⟩
      exact ⟨_, rfl, _, rfl, rfl, hb⟩
    · simp only [List.getElem?_toArray, List.getElem?_cons_zero, List.getElem?_cons_succ, Option.some.injEq] at ho
      subst ho
      obtain rfl := Option.some.inj hdt
      have i13 : (act.eval (.tmp (13 : Nat))) = .iface 32 (frV (P i k)) := hin ⟨4, .data⟩ (by simp) rfl 13 rfl
      have i24 : (act.eval (.tmp (24 : Nat))) = frV (dotF (rowM k g i) (rowM k g k)) := hin ⟨15, .data⟩ (by simp) rfl 24 rfl
      have iv := Tryz.mSubF
      refine enter_wp 124 #[frV (P i k), frV (dotF (rowM k g i) (rowM k g k))] (by intro c h; cases h) (fun _ _ => trivial) (by simp only [execOp, evalC, evalF, evalG, resolve, i13, i24, List.map_toArray, List.map_cons, List.map_nil]; simp [invoke, iv, egS, Result.andThen, go_sem]) (by intro h; cases h) (callsIn_wide.2 (XS.out u)) ?_
      rintro e w' ⟨rfl, hb⟩
      exact ⟨_, rfl, _, rfl, rfl, hb⟩
    · simp only [List.getElem?_toArray, List.getElem?_cons_zero, List.getElem?_cons_succ, Option.some.injEq] at ho
      subst ho
      obtain rfl := Option.some.inj hdt
      exact plain_wp (by intro c h; cases h) (fun _ _ => trivial) (w' := u.alloc (.cells #[.int .i64 0, .int .i64 0, .bool false] 32)) (v := .pointer (some ⟨u.heap.size, 0, none⟩)) (by simp only [execOp]; simp [go_sem]) ⟨_, rfl, ⟨u.heap.size, rfl, hu.size, FBox.new u zeroR _⟩, (Bl.refl _).alloc _⟩
    · simp only [List.getElem?_toArray, List.getElem?_cons_zero, List.getElem?_cons_succ, Option.some.injEq] at ho
      subst ho
      cases hdt
  case still =>
    intro j o t act u0 u ho hdt hpu
    cases hpu
  case store =>
    intro o act u vs ho hsz hu hfr hin
    simp only [List.getElem?_toArray, List.getElem?_cons_zero, List.getElem?_cons_succ, Option.some.injEq] at ho
    subst ho
    obtain ⟨i8, k8⟩ : act.eval (.tmp (8 : Nat)) = vs 17 ∧ (∃ b, (vs 17) = .pointer (some ⟨b, 0, none⟩) ∧ W.heap.size ≤ b ∧ FBox u b zeroR) := hin 17 8 rfl rfl
    obtain ⟨i25, k25⟩ : act.eval (.tmp (25 : Nat)) = vs 16 ∧ ((vs 16) = frV x) := hin 16 25 rfl rfl
    obtain ⟨b, e1, hb, bx⟩ := k8
    rw [e1] at i8
    rw [k25] at i25
    obtain ⟨c0, c1, c2, f0, f1, f2, ltb⟩ := id bx
    exact skip_wp (by intro c h; cases h) (fun _ _ => trivial) (by simp only [execOp, i8, i25]; simp [go_sem, c0, f0, c1, f1, c2, f2]) ⟨rfl, b, e1, bx.fill x, (x0.later hu).oth (by omega) _ _ _, Bl.set3 (b0.trans hu) (by have := b0.size; omega) _ _ _, Bl.set3 hu hb _ _ _⟩
  case fin =>
    intro vs vb u0 u hu hin hps
    have a0 := hin 0 9 rfl
    have a1 := hin 1 10 rfl
    have a2 := hin 2 11 rfl
    have a3 := hin 3 12 rfl
    have a4 := hin 4 13 rfl
    have a5 := hin 5 14 rfl
    have a6 := hin 6 15 rfl
    have a7 := hin 7 16 rfl
    have a8 := hin 8 17 rfl
    have a9 := hin 9 18 rfl
    have a10 := hin 10 19 rfl
    have a11 := hin 11 20 rfl
    have a12 := hin 12 21 rfl
    have a13 := hin 13 22 rfl
    have a14 := hin 14 23 rfl
    have a15 := hin 15 24 rfl
    have a16 := hin 16 25 rfl
    have a17 := hin 17 8 rfl
    simp only [putL, Act.put, List.setIfInBounds_toArray, List.set_cons_zero, List.set_cons_succ, Nat.zero_add, Nat.reduceAdd, Nat.reduceBEq, Bool.or_false, Bool.or_true, Bool.false_or, Bool.true_or, Bool.false_eq_true, if_false, if_true, reduceIte, Nat.reduceEqDiff, beq_self_eq_true, Bool.or_self] at a0 a1 a2 a3 a4 a5 a6 a7 a8 a9 a10 a11 a12 a13 a14 a15 a16 a17 ⊢
    rw [if_pos (by decide)] at hps
    simp only [a0, a1, a2, a3, a4, a5, a6, a8, a10, a11, a13, a15, a16]
    obtain ⟨b, e17, bx, xz, hbw, hbW⟩ := hps
    simp only [e17]
    clear a7 a9 a12 a14 a17
    have kk := k
    clear kk
    obtain ⟨c0, c1, c2, f0, f1, f2, ltb⟩ := id bx
    by_cases hik : i = k
    · have e0 : ((i : Int) == (k : Int)) = true := by simp [hik]
      have iv := Tryz.mRootF
      go_wp2_with fail
      refine (rroot_any x _).mono ?_
      rintro e w3 ⟨rfl, h3⟩
      clear c0 c1 c2 f0 f1 f2 iv
      obtain ⟨c0, c1, c2, f0, f1, f2, lt3⟩ := xz.later h3
      go_wp2
      simp [bodyPost, results, Tryz.results31, go_sem, c0, c1, c2]
      exact ⟨by rw [XV.out, if_pos hik]; simp, Bl.set3 (hbw.trans h3) (Nat.le_succ _) _ _ _⟩
    · have e0 : ((i : Int) == (k : Int)) = false := by simp; omega
      clear c0 c1 c2 f0 f1 f2 ltb
      go_wp2_with fail
      refine (wpIn_wide (n := 8)).1 (region_q fm [some 32, some 33, some 34, some 35, some 36, some 37, some 38, none] (fun _ => false) 7 (by kernel_rfl) (by rfl)
        (fun j v u => match j with | 0 => v = frV x | 1 => v = .iface 32 (frV x) | 2 => v = mV n n p N cap | 3 => v = .int .i64 k | 4 => v = .int .i64 k | 5 => v = frV (g k k) | 6 => v = frV (divR x (g k k)) | _ => False)
        (fun j v u u' _ h => h) (fun vs u0 u => FBox u (w.heap.size + 1) (divR x (g k k)) ∧ Bl w u) ?step ?still ?store ?fin)
      case step =>
        intro j o t act u ho hdt hpu hsz hu hfr hin
        have hj : j < 8 := (Array.getElem?_eq_some_iff.1 ho).1
        obtain ⟨c0, c1, c2, f0, f1, f2, ltb⟩ := bx.later hu
        obtain ⟨d0, d1, d2, _, _, _, _⟩ := ms.later (hbW.trans hu)
        rcases (by omega : j = 0 ∨ j = 1 ∨ j = 2 ∨ j = 3 ∨ j = 4 ∨ j = 5 ∨ j = 6 ∨ j = 7) with rfl | rfl | rfl | rfl | rfl | rfl | rfl | rfl
        · simp only [List.getElem?_toArray, List.getElem?_cons_zero, List.getElem?_cons_succ, Option.some.injEq] at ho
          subst ho
          obtain rfl := Option.some.inj hdt
          have i8 : act.eval (.tmp (8 : Nat)) = .pointer (some ⟨b, 0, none⟩) := hfr 8 (by decide)
          exact plain_wp (by intro c h; cases h) (fun _ _ => trivial) (by simp only [execOp, i8, evalC, evalF, evalG]; simp [go_sem, c0, c1, c2, d0, d1, d2]) ⟨_, rfl, rfl, Bl.refl _⟩
        · simp only [List.getElem?_toArray, List.getElem?_cons_zero, List.getElem?_cons_succ, Option.some.injEq] at ho
          subst ho
          obtain rfl := Option.some.inj hdt
          have i32 : (act.eval (.tmp (32 : Nat))) = frV x := hin ⟨0, .data⟩ (by simp) rfl 32 rfl
          exact plain_wp (by intro c h; cases h) (fun _ _ => trivial) (by simp only [execOp, i32, evalC, evalF, evalG]; simp [go_sem, c0, c1, c2, d0, d1, d2]) ⟨_, rfl, rfl, Bl.refl _⟩
        · simp only [List.getElem?_toArray, List.getElem?_cons_zero, List.getElem?_cons_succ, Option.some.injEq] at ho
          subst ho
          obtain rfl := Option.some.inj hdt
          have i4 : act.eval (.tmp (4 : Nat)) = .pointer (some ⟨w.heap.size, 0, none⟩) := hfr 4 (by decide)
          exact plain_wp (by intro c h; cases h) (fun _ _ => trivial) (by simp only [execOp, i4, evalC, evalF, evalG]; simp [go_sem, c0, c1, c2, d0, d1, d2]) ⟨_, rfl, rfl, Bl.refl _⟩
        · simp only [List.getElem?_toArray, List.getElem?_cons_zero, List.getElem?_cons_succ, Option.some.injEq] at ho
          subst ho
          obtain rfl := Option.some.inj hdt
          have i2 : act.eval (.tmp (2 : Nat)) = .int .i64 k := hfr 2 (by decide)
          exact plain_wp (by intro c h; cases h) (fun _ _ => trivial) (by simp only [execOp, i2, evalC, evalF, evalG]; simp [go_sem]) ⟨_, rfl, rfl, Bl.refl _⟩
        · simp only [List.getElem?_toArray, List.getElem?_cons_zero, List.getElem?_cons_succ, Option.some.injEq] at ho
          subst ho
          obtain rfl := Option.some.inj hdt
          have i2 : act.eval (.tmp (2 : Nat)) = .int .i64 k := hfr 2 (by decide)
          exact plain_wp (by intro c h; cases h) (fun _ _ => trivial) (by simp only [execOp, i2, evalC, evalF, evalG]; simp [go_sem]) ⟨_, rfl, rfl, Bl.refl _⟩
        · simp only [List.getElem?_toArray, List.getElem?_cons_zero, List.getElem?_cons_succ, Option.some.injEq] at ho
          subst ho
          obtain rfl := Option.some.inj hdt
          have i34 : (act.eval (.tmp (34 : Nat))) = mV n n p N cap := hin ⟨2, .data⟩ (by simp) rfl 34 rfl
          have i35 : (act.eval (.tmp (35 : Nat))) = .int .i64 k := hin ⟨3, .data⟩ (by simp) rfl 35 rfl
          have i36 : (act.eval (.tmp (36 : Nat))) = .int .i64 k := hin ⟨4, .data⟩ (by simp) rfl 36 rfl
          refine enter_wp 32 #[mV n n p N cap, .int .i64 k, .int .i64 k] (by intro c h; cases h) (fun _ _ => trivial) (by simp only [execOp, evalC, evalF, evalG, resolve, i34, i35, i36, List.map_toArray, List.map_cons, List.map_nil]; simp [invoke, egA, Result.andThen, go_sem]) (by intro h; cases h) (callsIn_wide.2 (mAtF n n p N cap g u (hg.later (hbw.trans hu)) k k hk hk)) ?_
          rintro e w' ⟨rfl, hb⟩
          exact ⟨_, rfl, _, rfl, rfl, hb⟩
        · simp only [List.getElem?_toArray, List.getElem?_cons_zero, List.getElem?_cons_succ, Option.some.injEq] at ho
          subst ho
          obtain rfl := Option.some.inj hdt
          have i33 : (act.eval (.tmp (33 : Nat))) = .iface 32 (frV x) := hin ⟨1, .data⟩ (by simp) rfl 33 rfl
          have i37 : (act.eval (.tmp (37 : Nat))) = frV (g k k) := hin ⟨5, .data⟩ (by simp) rfl 37 rfl
          have iv := Tryz.mDivF
          refine enter_wp 119 #[frV x, frV (g k k)] (by intro c h; cases h) (fun _ _ => trivial) (by simp only [execOp, evalC, evalF, evalG, resolve, i33, i37, List.map_toArray, List.map_cons, List.map_nil]; simp [invoke, iv, egV, Result.andThen, go_sem]) (by intro h; cases h) (callsIn_wide.2 (rdiv_any x (g k k) u)) ?_
          rintro e w' ⟨rfl, hb⟩
          exact ⟨_, rfl, _, rfl, rfl, hb⟩
        · simp only [List.getElem?_toArray, List.getElem?_cons_zero, List.getElem?_cons_succ, Option.some.injEq] at ho
          subst ho
          cases hdt
      case still =>
        intro j o t act u0 u ho hdt hpu
        cases hpu
      case store =>
        intro o act u vs ho hsz hu hfr hin
        simp only [List.getElem?_toArray, List.getElem?_cons_zero, List.getElem?_cons_succ, Option.some.injEq] at ho
        subst ho
        have i7 : act.eval (.tmp (7 : Nat)) = .pointer (some ⟨w.heap.size + 1, 0, none⟩) := hfr 7 (by decide)
        obtain ⟨i38, k38⟩ : act.eval (.tmp (38 : Nat)) = vs 6 ∧ ((vs 6) = frV (divR x (g k k))) := hin 6 38 rfl rfl
        rw [k38] at i38
        obtain ⟨c0, c1, c2, f0, f1, f2, ltb⟩ := xz.later hu
        exact skip_wp (by intro c h; cases h) (fun _ _ => trivial) (by simp only [execOp, i7, i38]; simp [go_sem, c0, f0, c1, f1, c2, f2]) ⟨rfl, (xz.later hu).fill _, Bl.set3 (hbw.trans hu) (Nat.le_succ _) _ _ _⟩
      case fin =>
        intro vs vb u0 u hu hin hps
        have a0 := hin 0 32 rfl
        have a1 := hin 1 33 rfl
        have a2 := hin 2 34 rfl
        have a3 := hin 3 35 rfl
        have a4 := hin 4 36 rfl
        have a5 := hin 5 37 rfl
        have a6 := hin 6 38 rfl
        simp only [putL, Act.put, List.setIfInBounds_toArray, List.set_cons_zero, List.set_cons_succ, Nat.zero_add, Nat.reduceAdd, Nat.reduceBEq, Bool.or_false, Bool.or_true, Bool.false_or, Bool.true_or, Bool.false_eq_true, if_false, if_true, reduceIte, Nat.reduceEqDiff, beq_self_eq_true, Bool.or_self] at a0 a1 a2 a3 a4 a5 a6 ⊢
        rw [if_pos (by decide)] at hps
        simp only [a0, a1, a2, a3, a4, a5, a6]
        obtain ⟨bz, hbz⟩ := hps
        obtain ⟨c0, c1, c2, f0, f1, f2, ltb⟩ := bz
        go_wp2
        simp [bodyPost, results, Tryz.results31, go_sem, c0, c1, c2]
        exact ⟨by rw [XV.out, if_neg hik]; simp, hbz⟩
theorem tRootF (n : Nat) (p : Option Addr) (N cap : Nat) (f : Nat → Nat → Fr) (w : World) (h : Mx 3 cellsF w n n p N cap f) :
    Calls Tryz.prog 10 #[mV n n p N cap] w fun e w' => ∃ p' cap', e = .returned (.tuple #[mV n n p' N cap', .bool true]) ∧ (Mx 3 cellsF w' n n p' N cap' (triT (rootVF f) (wholeF 0) n n) ∧ Fresh w.heap.size (.slice p' N cap')) ∧ Bl w w' := by
  have hsq : sqB n n N = true := by unfold sqB; rw [h.fit]; simp
  obtain ⟨W, hW⟩ : ∃ W, W = (w.alloc (.cells #[.int .i64 n, .int .i64 n, .slice p N cap] 28)).alloc (.cells #[.int .i64 0, .int .i64 0, .slice none 0 0] 28) := ⟨_, rfl⟩
  have b0 : Bl w W := by rw [hW]; exact ((Bl.refl _).alloc _).alloc _
  have m0 : MBox W w.heap.size n n p N cap := by rw [hW]; exact (MBox.new w _ _ _ _ _ _).later ((Bl.refl _).alloc _)
  have x0 : MBox W (w.heap.size + 1) 0 0 none 0 0 := by rw [hW]; have := MBox.new (w.alloc (.cells #[.int .i64 n, .int .i64 n, .slice p N cap] 28)) 0 0 none 0 0 28; rw [World.size_alloc] at this; exact this
  have hs : W.heap.size = w.heap.size + 1 + 1 := by rw [hW]; simp
  have FI := hideP (fun u (hu : Bl W u) => tTriangleF 31 w.heap.size (enters_of Tryz.func31 (by kernel_rfl) rfl) (rootVF f) n N h.1.r1 h.1.r2 h.2.1 u
    (fun g p' cap' i k v hki hi hv hg => tRoot1F n p N cap f p' cap' g v (h.later (b0.trans (hu.trans hv))) _ (m0.later (hu.trans hv)) hg i k hi hki))
  have HD := hideP h
  have HW := hideP hW
  clear hW h
  go_enter Tryz.func10, Tryz.ntmps10
  go_wp2_with fail
  rw [← HW.out]
  refine (tSquareF _ _ _ _ _ _).mono ?_
  rintro e w1 ⟨rfl, h1⟩
  rw [hsq]
  obtain ⟨c0, c1, c2, f0, f1, f2, lt⟩ := m0.later h1
  go_wp2_with fail
  refine (FI.out _ h1).mono ?_
  rintro e w2 ⟨p', cap', rfl, ⟨hR, hF⟩, h2⟩
  have HR := hideP hR
  have HF := hideP (show Fresh (w.heap.size + 1 + 1) (.slice p' N cap') from fun g hg => by have := hF g hg; have := h1.size; omega)
  clear hR hF FI c0 c1 c2 f0 f1 f2
  obtain ⟨c0, c1, c2, f0, f1, f2, lt2⟩ := x0.later (h1.trans h2)
  go_wp2
  simp [bodyPost, results, Tryz.results10, go_sem, c0, c1, c2]
  exact ⟨p', cap', ⟨rfl, rfl⟩, ⟨mx_put7 HR.out HF.out _ _ _, fun g hg => by have := HF.out g hg; omega⟩, Bl.put3 ((b0.trans h1).trans h2) (Nat.le_succ _) _ _ _⟩
theorem tRootF_no (r c : Int) (p : Option Addr) (n cap : Nat) (w : World) (hsq : sqB r c n = false) :
    Calls Tryz.prog 10 #[mV r c p n cap] w fun e w' => e = .returned (.tuple #[mV 0 0 none 0 0, .bool false]) ∧ Bl w w' := by
  obtain ⟨W, hW⟩ : ∃ W, W = (w.alloc (.cells #[.int .i64 r, .int .i64 c, .slice p n cap] 28)).alloc (.cells #[.int .i64 0, .int .i64 0, .slice none 0 0] 28) := ⟨_, rfl⟩
  have b0 : Bl w W := by rw [hW]; exact ((Bl.refl _).alloc _).alloc _
  have x0 : MBox W (w.heap.size + 1) 0 0 none 0 0 := by rw [hW]; have := MBox.new (w.alloc (.cells #[.int .i64 r, .int .i64 c, .slice p n cap] 28)) 0 0 none 0 0 28; rw [World.size_alloc] at this; exact this
  have HW := hideP hW
  clear hW
  go_enter Tryz.func10, Tryz.ntmps10
  go_wp2_with fail
  rw [← HW.out]
  refine (tSquareF _ _ _ _ _ _).mono ?_
  rintro e w1 ⟨rfl, h1⟩
  rw [hsq]
  obtain ⟨c0, c1, c2, f0, f1, f2, lt2⟩ := x0.later h1
  go_wp2
  simp [bodyPost, results, Tryz.results10, go_sem, c0, c1, c2]
  exact Bl.put3 (b0.trans h1) (Nat.le_succ _) _ _ _
end Go.Proofs.YtbfdkahbnfpabaaGreat
