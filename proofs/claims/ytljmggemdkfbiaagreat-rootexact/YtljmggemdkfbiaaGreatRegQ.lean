/- A region that draws its order, over any frame, inside any fence: its operations read what is held, or lay blocks; one of them may store; some are pure: by one fact an operation, whatever their order. -/
import Derived.Test.YtljmggemdkfbiaaGreatReg
namespace Go.Proofs.YtljmggemdkfbiaaGreat
open Go.RowKit
set_option linter.unusedSimpArgs false
set_option linter.unusedVariables false

theorem evalC (a : Act) (v : Value) : a.eval (.const v) = v := rfl
theorem evalF (a : Act) (f : Nat) : a.eval (.func f) = .func (.func f) #[] #[] := rfl
theorem evalG (a : Act) (g : Nat) : a.eval (.global g) = .pointer (some ⟨g, 0, none⟩) := rfl
/-- A frame with the slots of a region's operations set. -/
def putL : List (Option Nat) → (Nat → Value) → Nat → Act → Act
  | [], _, _, a => a
  | d :: ds, vs, k, a => putL ds vs (k + 1) (a.put d (vs k))
theorem putL_size (ds : List (Option Nat)) (vs : Nat → Value) : ∀ k a, (putL ds vs k a).tmps.size = a.tmps.size := by
  induction ds with
  | nil => intro k a; rfl
  | cons d ds ih => intro k a; rw [putL, ih, size_put]
theorem putL_defers (ds : List (Option Nat)) (vs : Nat → Value) : ∀ k a, (putL ds vs k a).defers = a.defers := by
  induction ds with
  | nil => intro k a; rfl
  | cons d ds ih => intro k a; rw [putL, ih, defers_put]
theorem eval_put_ne {a : Act} {d : Option Nat} {s : Nat} {v : Value} (h : d ≠ some s) : (a.put d v).eval (.tmp s) = a.eval (.tmp s) := by
  cases d with
  | none => rfl
  | some d => exact eval_put_other (fun e => h (by rw [e]))
theorem putL_other (ds : List (Option Nat)) (vs : Nat → Value) (t : Nat) : ∀ k a, (∀ d ∈ ds, d ≠ some t) → (putL ds vs k a).eval (.tmp t) = a.eval (.tmp t) := by
  induction ds with
  | nil => intro k a _; rfl
  | cons d ds ih => intro k a h; rw [putL, ih _ _ (fun d hd => h d (List.mem_cons_of_mem _ hd)), eval_put_ne (h d List.mem_cons_self)]
/-- No slot is set twice. -/
def onceB : List (Option Nat) → Bool
  | [] => true
  | d :: ds => (d.isNone || ds.all (· != d)) && onceB ds
theorem putL_at (ds : List (Option Nat)) (vs : Nat → Value) (t : Nat) : ∀ (j : Nat) k a, onceB ds = true → ds[j]? = some (some t) → t < a.tmps.size → (putL ds vs k a).eval (.tmp t) = vs (k + j) := by
  induction ds with
  | nil => intro j k a _ h; simp at h
  | cons d ds ih =>
    intro j k a ho h ht
    simp only [onceB, Bool.and_eq_true] at ho
    cases j with
    | zero =>
      simp at h
      subst h
      rw [putL, putL_other, Nat.add_zero]
      · exact eval_put_same ht
      · intro d hd e
        subst e
        have := ho.1
        simp at this
        exact this _ hd rfl
    | succ j =>
      rw [putL, ih j (k + 1) _ ho.2 (by simpa using h) (by rw [size_put]; exact ht)]
      congr 1
      omega
theorem act_ext {a b : Act} (h1 : a.tmps.size = b.tmps.size) (h2 : a.defers = b.defers) (h3 : ∀ t, t < a.tmps.size → a.eval (.tmp t) = b.eval (.tmp t)) : a = b := by
  obtain ⟨ta, da⟩ := a
  obtain ⟨tb, db⟩ := b
  simp only at h1 h2
  subst h2
  congr 1
  refine Array.ext h1 fun t ha hb => ?_
  have := h3 t ha
  simpa [Act.eval, Array.getD, ha, hb] using this

/-- I L: those of L have come up. -/
theorem region_facts2 {F : Fence} {n : Nat} {P : Program} {ops : Array Oper} {Q : Exit → Act → World → Prop} {a : Act} {w : World} {id : Nat} (hm : P.follows .mixedOrders = true)
    (hlow : ∀ (i : Nat) (o : Oper), ops[i]? = some o → ∀ e ∈ o.after, Region.binds .any e = true → e.on < i) (I : (Nat → Bool) → Act → World → Prop) (h0 : I (fun _ => false) a w.drew)
    (step : ∀ (L : Nat → Bool) (act : Act) (u : World) (i : Nat) (o : Oper), I L act u → ops[i]? = some o → L i = false → (∀ e ∈ o.after, Region.binds .any e = true → L e.on = true) → wpOpIn F n P ops Q i (I fun j => L j || (j == i)) act u)
    (fin : ∀ L act u, I L act u → (∀ j, j < ops.size → L j = true) → Q .normal act u) : (Code.region id ops true).wpIn F n P Q a w := by
  refine wpIn_region_any hm ?_
  have main := wpAnyIn_phase (F := F) (n := n) (P := P) (md := .any) (ops := ops) (Q := Q) (fuel := 0)
    (fun k l act u => l.size = ops.size ∧ k = leftN l.toList ∧ I (fun j => l.getD j false) act u) ?fin ?live ?step ops.size (Array.replicate ops.size false) a w.drew ⟨by simp, by simp [leftN_rep], ?start⟩
  case start =>
    have : (fun j => (Array.replicate ops.size false).getD j false) = (fun _ : Nat => false) := by
      funext j; simp [Array.getD]
    rw [this]; exact h0
  case fin =>
    rintro l act u ⟨hs, hk, hI⟩
    have hall := leftN_zero l.toList hk.symm
    have hl : ∀ j, j < ops.size → l.getD j false = true := fun j hj => by
      have := hall j (by simpa [hs] using hj)
      have h2 : l[j]? = some true := by simpa using this
      rw [Array.getD_eq_getD_getElem?, h2]; rfl
    refine wpAnyIn_done ?_ (fin _ act u hI hl) 0
    rw [List.eq_nil_iff_forall_not_mem]
    intro i hi
    obtain ⟨h1, o, ho, _⟩ := mem_ready.1 hi
    have hlt := (Array.getElem?_eq_some_iff.1 ho).1
    have := hl i hlt
    rw [Array.getD_eq_getD_getElem?] at this h1
    cases e : l[i]? <;> simp_all
  case live =>
    rintro k l act u ⟨hs, hk, hI⟩ hr
    obtain ⟨i, h1, h2⟩ := leftN_pos l.toList (by omega)
    have hi : i < l.size := by have := (List.getElem?_eq_some_iff.1 h1).1; simpa using this
    rw [List.eq_nil_iff_forall_not_mem] at hr
    refine hr i (mem_ready.2 ⟨?_, ops[i]'(by omega), Array.getElem?_eq_getElem _, fun e he hbe => ?_⟩)
    · have h3 : l[i]? = some false := by simpa using h1
      rw [Array.getD_eq_getD_getElem?, h3]; rfl
    · have h4 := hlow i _ (Array.getElem?_eq_getElem (by omega)) e he hbe
      have h3 : l[e.on]? = some true := by simpa using h2 _ h4
      rw [Array.getD_eq_getD_getElem?, h3]; rfl
  case step =>
    rintro k l act u i ⟨hs, hk, hI⟩ hi hall
    have hlt := getD_lt' hi
    have hli : l[i]? = some false := by
      rw [Array.getD_eq_getD_getElem?] at hi
      rw [Array.getElem?_eq_getElem hlt] at hi ⊢
      simpa using hi
    have hw := step _ act u i (ops[i]'(by omega)) hI (Array.getElem?_eq_getElem _) (by show l.getD i false = false; rw [Array.getD_eq_getD_getElem?, hli]; rfl) (fun e he hb => hall e ⟨_, Array.getElem?_eq_getElem _, he⟩ hb)
    refine wpOpIn_mono (fun a' w' h' => ⟨by simp [hs], ?_, ?_⟩) hw
    · have := leftN_set l.toList i (by simpa using hli)
      rw [Array.toList_setIfInBounds]
      omega
    · have : (fun j => (l.setIfInBounds i true).getD j false) = (fun j => l.getD j false || (j == i)) := by
        funext j
        by_cases hj : j = i
        · subst hj
          simp [Array.getD, hlt]
        · rw [Array.getD_eq_getD_getElem?, Array.getElem?_setIfInBounds_ne (fun e => hj e.symm), ← Array.getD_eq_getD_getElem?]
          simp [hj]
      rw [this]; exact h'
  rw [Nat.zero_add] at main
  exact main
/-- Each waits for earlier ones alone. -/
def lowB2 (ops : Array Oper) : Bool := (List.range ops.size).all fun i => match ops[i]? with
  | some o => o.after.all fun e => !Region.binds .any e || decide (e.on < i)
  | none => true
theorem lowB2_low {ops : Array Oper} (h : lowB2 ops = true) : ∀ (i : Nat) (o : Oper), ops[i]? = some o → ∀ e ∈ o.after, Region.binds .any e = true → e.on < i := by
  intro i o ho e he hb
  have h1 := List.all_eq_true.1 h i (by simpa using (Array.getElem?_eq_some_iff.1 ho).1)
  rw [ho] at h1
  simp only [Array.all_eq_true_iff_forall_mem] at h1
  have := h1 e he
  rw [hb] at this
  simpa using this
/-- What must hold of the operations, by reckoning. -/
def wellB (ops : Array Oper) (ds : List (Option Nat)) (pure : Nat → Bool) (s : Nat) : Bool :=
  lowB2 ops && onceB ds && (ds.length == ops.size) && (List.range ops.size).all fun j => match ops[j]? with
    | none => true
    | some o => o.guard.isNone && (ds[j]? == some o.dst) && (if j == s then o.dst.isNone && !pure j else o.dst.isSome) && (if j < s then pure j || decide (ops.size ≤ s) || (List.range (s + 1)).any (fun i => decide (j < i) && !(pure i) && match ops[i]? with
      | some o' => o'.after.any fun e => (e.on == j) && Region.binds .any e
      | none => false) else if s < j then pure j else true)
structure Well (ops : Array Oper) (ds : List (Option Nat)) (pure : Nat → Bool) (s : Nat) : Prop where
  low : lowB2 ops = true
  once : onceB ds = true
  guard : ∀ (j : Nat) (o : Oper), ops[j]? = some o → o.guard = none
  dst : ∀ (j : Nat) (o : Oper), ops[j]? = some o → ds[j]? = some o.dst
  got : ∀ (j : Nat) (o : Oper), ops[j]? = some o → j ≠ s → ∃ t, o.dst = some t
  len : ds.length = ops.size
  stor : ∀ (o : Oper), ops[s]? = some o → o.dst = none ∧ pure s = false
  used : ∀ j, j < s → s < ops.size → pure j = false → ∃ (i : Nat) (o' : Oper) (e : Edge), j < i ∧ i ≤ s ∧ pure i = false ∧ ops[i]? = some o' ∧ e ∈ o'.after ∧ e.on = j ∧ Region.binds .any e = true
  late : ∀ (j : Nat) (o : Oper), ops[j]? = some o → s < j → pure j = true
theorem wellB_well {ops : Array Oper} {ds : List (Option Nat)} {pure : Nat → Bool} {s : Nat} (h : wellB ops ds pure s = true) : Well ops ds pure s := by
  simp only [wellB, Bool.and_eq_true] at h
  obtain ⟨⟨⟨h1, h2⟩, h2'⟩, h3⟩ := h
  have key : ∀ (j : Nat) (o : Oper), ops[j]? = some o → _ := fun j o ho => by
    have := List.all_eq_true.1 h3 j (by simpa using (Array.getElem?_eq_some_iff.1 ho).1)
    rw [ho] at this
    simp only [Bool.and_eq_true] at this
    exact this
  refine ⟨h1, h2, fun j o ho => by simpa using (key j o ho).1.1.1, fun j o ho => by simpa using (key j o ho).1.1.2, fun j o ho hj => ?_, by simpa using h2', fun o ho => ?_, fun j hj hs hp => ?_, fun j o ho hj => ?_⟩
  · have := (key j o ho).1.2
    rw [if_neg (by simpa using hj)] at this
    exact Option.isSome_iff_exists.1 this
  · have := (key s o ho).1.2
    rw [if_pos (by simp)] at this
    simpa using this
  · have hjl : j < ops.size := by omega
    have := (key j _ (Array.getElem?_eq_getElem hjl)).2
    rw [if_pos hj] at this
    simp only [hp, Bool.false_or, Bool.or_eq_true, decide_eq_true_eq, List.any_eq_true, Bool.and_eq_true] at this
    rcases this with h | ⟨i, hi, ⟨⟨hji, hpi⟩, hm⟩⟩
    · omega
    · have hi' : i < s + 1 := by simpa using hi
      have his : i < ops.size := by omega
      rw [Array.getElem?_eq_getElem his] at hm
      simp only [Array.any_eq_true'] at hm
      obtain ⟨e, he, hb⟩ := hm
      simp only [Bool.and_eq_true, beq_iff_eq] at hb
      exact ⟨i, _, e, hji, by omega, by simpa using hpi, Array.getElem?_eq_getElem his, he, hb.1, hb.2⟩
  · have := (key j o ho).2
    rw [if_neg (by omega), if_pos hj] at this
    exact this
/-- Between two of a region's operations. -/
structure RQ (W : World) (a : Act) (ops : Array Oper) (ds : List (Option Nat)) (pure : Nat → Bool) (s : Nat) (facts : Nat → Value → World → Prop) (PS : (Nat → Value) → World → World → Prop) (L : Nat → Bool) (act : Act) (u : World) : Prop where
  size : act.tmps.size = a.tmps.size
  defers : act.defers = a.defers
  frame : ∀ t, (∀ j, L j = true → ds[j]? ≠ some (some t)) → act.eval (.tmp t) = a.eval (.tmp t)
  inb : ∀ j, L j = true → j < ops.size
  shut : ∀ (j : Nat) (o : Oper), ops[j]? = some o → L j = true → ∀ e ∈ o.after, Region.binds .any e = true → L e.on = true
  have0 : L s = false → Bl W u ∧ ∀ (j t : Nat), ds[j]? = some (some t) → L j = true → facts j (act.eval (.tmp t)) u
  have1 : L s = true → ∃ u0 vs, Bl W u0 ∧ (∀ (j t : Nat), ds[j]? = some (some t) → L j = true → facts j (act.eval (.tmp t)) u0) ∧ (∀ (j t : Nat), ds[j]? = some (some t) → pure j = false → act.eval (.tmp t) = vs j) ∧ PS vs u0 u
/-- I: how a region's operations go, each told by a fact of what it yields; the one at s stores. -/
theorem region_q {F : Fence} {n : Nat} {P : Program} {ops : Array Oper} {Q : Exit → Act → World → Prop} {a : Act} {W : World} {id : Nat} (hm : P.follows .mixedOrders = true) (ds : List (Option Nat)) (pure : Nat → Bool) (s : Nat) (hw : wellB ops ds pure s = true)
    (hsz0 : ds.all (fun d => match d with | some t => Nat.blt t a.tmps.size | none => true) = true) (facts : Nat → Value → World → Prop) (mono : ∀ j v u u', Bl u u' → facts j v u → facts j v u') (PS : (Nat → Value) → World → World → Prop)
    (step : ∀ (j : Nat) (o : Oper) (t : Nat) (act : Act) (u : World), ops[j]? = some o → o.dst = some t → pure j = false → act.tmps.size = a.tmps.size → Bl W u → (∀ t, some t ∉ ds → act.eval (.tmp t) = a.eval (.tmp t)) → (∀ e ∈ o.after, Region.binds .any e = true → ∀ t, ds[e.on]? = some (some t) → facts e.on (act.eval (.tmp t)) u) →
      Oper.wpIn F n P o act u (fun act' u' => ∃ v, act' = act.put (some t) v ∧ facts j v u' ∧ Bl u u') Q)
    (still : ∀ (j : Nat) (o : Oper) (t : Nat) (act : Act) (u0 u : World), ops[j]? = some o → o.dst = some t → pure j = true → act.tmps.size = a.tmps.size → Bl W u0 → (∀ t, some t ∉ ds → act.eval (.tmp t) = a.eval (.tmp t)) → (∀ e ∈ o.after, Region.binds .any e = true → ∀ t, ds[e.on]? = some (some t) → facts e.on (act.eval (.tmp t)) u0) →
      Oper.wpIn F n P o act u (fun act' u' => ∃ v, act' = act.put (some t) v ∧ facts j v u0 ∧ u' = u) Q)
    (store : ∀ (o : Oper) (act : Act) (u : World) (vs : Nat → Value), ops[s]? = some o → act.tmps.size = a.tmps.size → Bl W u → (∀ t, some t ∉ ds → act.eval (.tmp t) = a.eval (.tmp t)) → (∀ (j t : Nat), ds[j]? = some (some t) → pure j = false → act.eval (.tmp t) = vs j ∧ facts j (vs j) u) →
      Oper.wpIn F n P o act u (fun act' u' => act' = act ∧ PS vs u u') Q)
    (fin : ∀ (vs vb : Nat → Value) (u0 u : World), Bl W u0 → (∀ (j : Nat) (t : Nat), ds[j]? = some (some t) → facts j (if pure j then vb j else vs j) u0) → (if s < ops.size then PS vs u0 u else u = u0) → Q .normal (putL ds (fun j => if pure j then vb j else vs j) 0 a) u) :
    (Code.region id ops true).wpIn F n P Q a W := by
  have H := wellB_well hw
  have hsz : ∀ t, some t ∈ ds → t < a.tmps.size := fun t ht => by have := List.all_eq_true.1 hsz0 _ ht; rw [Nat.blt_eq] at this; exact this
  have hlt : ∀ (j t : Nat), ds[j]? = some (some t) → j < ops.size := fun j t h => by have := (List.getElem?_eq_some_iff.1 h).1; rw [H.len] at this; exact this
  have hds : ∀ (j : Nat) (o : Oper) (t : Nat), ops[j]? = some o → ds[j]? = some (some t) → o.dst = some t := fun j o t ho h => by
    rw [H.dst j o ho] at h
    simpa using h
  have hne : ∀ (i j t t' : Nat), ds[i]? = some (some t) → ds[j]? = some (some t') → i ≠ j → t ≠ t' := by
    have : ∀ (ds : List (Option Nat)), onceB ds = true → ∀ (i j t t' : Nat), ds[i]? = some (some t) → ds[j]? = some (some t') → i < j → t ≠ t' := by
      intro ds
      induction ds with
      | nil => intro _ i j t t' h; simp at h
      | cons d ds ih =>
        intro ho i j t t' h1 h2 hij
        simp only [onceB, Bool.and_eq_true] at ho
        cases j with
        | zero => omega
        | succ j =>
          cases i with
          | zero =>
            simp at h1 h2
            subst h1
            have := ho.1
            simp at this
            exact fun e => this _ (List.mem_of_getElem? h2) (by rw [e])
          | succ i => exact ih ho.2 i j t t' (by simpa using h1) (by simpa using h2) (by omega)
    intro i j t t' h1 h2 hij
    rcases Nat.lt_or_gt_of_ne hij with h | h
    · exact this ds H.once i j t t' h1 h2 h
    · exact (this ds H.once j i t' t h2 h1 h).symm
  refine region_facts2 hm (lowB2_low H.low) (RQ W a ops ds pure s facts PS) ?_ ?_ ?_
  · exact ⟨rfl, rfl, fun _ _ => rfl, (by intro _ h; cases h), (by intro _ _ _ h; cases h), fun _ => ⟨(Bl.refl _).drew, (by intro _ _ _ h; cases h)⟩, (by intro h; cases h)⟩
  · intro L act u i o hI ho hLi hall
    have hil : i < ops.size := (Array.getElem?_eq_some_iff.1 ho).1
    refine step_wp ho (H.guard i o ho) ?_
    have hfr : ∀ t, some t ∉ ds → act.eval (.tmp t) = a.eval (.tmp t) := fun t ht => hI.frame t (fun j _ e => ht (List.mem_of_getElem? e))
    have shut' : ∀ (j : Nat) (o' : Oper), ops[j]? = some o' → (L j || (j == i)) = true → ∀ e ∈ o'.after, Region.binds .any e = true → (L e.on || (e.on == i)) = true := fun j o' ho' hj e he hb => by
      rw [Bool.or_eq_true] at hj
      rcases hj with hj | hj
      · rw [hI.shut j o' ho' hj e he hb]; rfl
      · obtain rfl : j = i := by simpa using hj
        rw [ho] at ho'
        cases ho'
        rw [hall e he hb]; rfl
    have inb' : ∀ j, (L j || (j == i)) = true → j < ops.size := fun j hj => by
      rw [Bool.or_eq_true] at hj
      rcases hj with hj | hj
      · exact hI.inb j hj
      · obtain rfl : j = i := by simpa using hj
        exact hil
    by_cases his : i = s
    · subst his
      obtain ⟨hd, hps⟩ := H.stor o ho
      obtain ⟨hb, hf⟩ := hI.have0 hLi
      have done : ∀ m, ∀ j, i - j ≤ m → j < i → pure j = false → L j = true := by
        intro m
        induction m with
        | zero => intro j h1 h2; omega
        | succ m ih =>
          intro j h1 h2 hp
          obtain ⟨k, o', e, hjk, hki, hpk, ho', he, hej, hbe⟩ := H.used j h2 hil hp
          subst hej
          by_cases hk : k = i
          · subst hk
            rw [ho] at ho'
            cases ho'
            exact hall e he hbe
          · exact hI.shut k o' ho' (ih k (by omega) (by omega) hpk) e he hbe
      have all : ∀ (j t : Nat), ds[j]? = some (some t) → pure j = false → L j = true := fun j t h hp => by
        have h2 := hlt j t h
        rcases Nat.lt_trichotomy j i with h1 | h1 | h1
        · exact done (i - j) j (Nat.le_refl _) h1 hp
        · subst h1
          rw [H.dst j o ho, hd] at h
          cases h
        · rw [H.late j _ (Array.getElem?_eq_getElem h2) h1] at hp
          cases hp
      have vals : ∀ (j t : Nat), ds[j]? = some (some t) → act.eval (.tmp t) = (fun j => act.eval (.tmp ((ds[j]?.getD none).getD 0))) j := fun j t h => by simp [h]
      refine Oper.wpIn_mono ?_ (store o act u (fun j => act.eval (.tmp ((ds[j]?.getD none).getD 0))) ho hI.size hb hfr (fun j t h hp => ⟨vals j t h, by have := hf j t h (all j t h hp); rw [vals j t h] at this; exact this⟩))
      rintro act' u' ⟨rfl, hP⟩
      refine ⟨hI.size, hI.defers, fun t ht => hI.frame t (fun j hj => ht j (by rw [hj]; rfl)), inb', shut', fun h => by simp at h, fun _ => ⟨u, _, hb, fun j t h hj => ?_, fun j t h hp => vals j t h, hP⟩⟩
      rw [Bool.or_eq_true] at hj
      rcases hj with hj | hj
      · exact hf j t h hj
      · obtain rfl : j = i := by simpa using hj
        rw [H.dst j o ho, hd] at h
        cases h
    · obtain ⟨t, hdt⟩ := H.got i o ho his
      have hdi : ds[i]? = some (some t) := by rw [H.dst i o ho, hdt]
      have htl : t < act.tmps.size := by rw [hI.size]; exact hsz t (List.mem_of_getElem? hdi)
      have hLs : (L s || (s == i)) = L s := by
        have : (s == i) = false := by simpa using fun e => his e.symm
        rw [this, Bool.or_false]
      have oth : ∀ (v : Value) (j t' : Nat), ds[j]? = some (some t') → j ≠ i → (act.put (some t) v).eval (.tmp t') = act.eval (.tmp t') := fun v j t' h hj => eval_put_other (hne j i t' t h hdi hj)
      have frame' : ∀ v, ∀ t', (∀ j, (L j || (j == i)) = true → ds[j]? ≠ some (some t')) → (act.put (some t) v).eval (.tmp t') = a.eval (.tmp t') := fun v t' h => by
        have h1 : t' ≠ t := fun e => h i (by simp) (by rw [e]; exact hdi)
        rw [eval_put_other h1]
        exact hI.frame t' (fun j hj => h j (by rw [hj]; rfl))
      cases hp : pure i with
      | false =>
        have hLs0 : L s = false := by
          cases hh : L s with
          | false => rfl
          | true =>
            obtain ⟨u0, vs, hb, hf, hv, hP⟩ := hI.have1 hh
            rcases Nat.lt_trichotomy i s with h1 | h1 | h1
            · have hsl : s < ops.size := hI.inb s hh
              have done : ∀ m, ∀ j, s - j ≤ m → j < s → pure j = false → L j = true := by
                intro m
                induction m with
                | zero => intro j h1 h2; omega
                | succ m ih =>
                  intro j h1 h2 hp
                  obtain ⟨k, o', e, hjk, hki, hpk, ho', he, hej, hbe⟩ := H.used j h2 hsl hp
                  subst hej
                  by_cases hk : k = s
                  · subst hk
                    exact hI.shut k o' ho' hh e he hbe
                  · exact hI.shut k o' ho' (ih k (by omega) (by omega) hpk) e he hbe
              rw [done (s - i) i (Nat.le_refl _) h1 hp] at hLi
              cases hLi
            · exact absurd h1 his
            · rw [H.late i o ho h1] at hp
              cases hp
        obtain ⟨hb, hf⟩ := hI.have0 hLs0
        refine Oper.wpIn_mono ?_ (step i o t act u ho hdt hp hI.size hb hfr (fun e he hbe t' ht' => hf e.on t' ht' (hall e he hbe)))
        rintro act' u' ⟨v, rfl, hv, hb'⟩
        refine ⟨by rw [size_put]; exact hI.size, by rw [defers_put]; exact hI.defers, frame' v, inb', shut', fun _ => ⟨hb.trans hb', fun j t' h hj => ?_⟩, fun h => by rw [hLs, hLs0] at h; cases h⟩
        by_cases hji : j = i
        · subst hji
          rw [hdi] at h
          cases h
          rw [eval_put_same htl]
          exact hv
        · rw [oth v j t' h hji]
          exact mono _ _ _ _ hb' (hf j t' h (by rw [Bool.or_eq_true] at hj; exact hj.resolve_right (by simpa using hji)))
      | true =>
        cases hh : L s with
        | false =>
          obtain ⟨hb, hf⟩ := hI.have0 hh
          refine Oper.wpIn_mono ?_ (still i o t act u u ho hdt hp hI.size hb hfr (fun e he hbe t' ht' => hf e.on t' ht' (hall e he hbe)))
          rintro act' u' ⟨v, rfl, hv, rfl⟩
          refine ⟨by rw [size_put]; exact hI.size, by rw [defers_put]; exact hI.defers, frame' v, inb', shut', fun _ => ⟨hb, fun j t' h hj => ?_⟩, fun h => by rw [hLs, hh] at h; cases h⟩
          by_cases hji : j = i
          · subst hji
            rw [hdi] at h
            cases h
            rw [eval_put_same htl]
            exact hv
          · rw [oth v j t' h hji]
            exact hf j t' h (by rw [Bool.or_eq_true] at hj; exact hj.resolve_right (by simpa using hji))
        | true =>
          obtain ⟨u0, vs, hb, hf, hvs, hP⟩ := hI.have1 hh
          refine Oper.wpIn_mono ?_ (still i o t act u0 u ho hdt hp hI.size hb hfr (fun e he hbe t' ht' => hf e.on t' ht' (hall e he hbe)))
          rintro act' u' ⟨v, rfl, hv, rfl⟩
          refine ⟨by rw [size_put]; exact hI.size, by rw [defers_put]; exact hI.defers, frame' v, inb', shut', (by intro h; rw [hLs, hh] at h; cases h), fun _ => ⟨u0, vs, hb, fun j t' h hj => ?_, fun j t' h hp' => ?_, hP⟩⟩
          · by_cases hji : j = i
            · subst hji
              rw [hdi] at h
              cases h
              rw [eval_put_same htl]
              exact hv
            · rw [oth v j t' h hji]
              exact hf j t' h (by rw [Bool.or_eq_true] at hj; exact hj.resolve_right (by simpa using hji))
          · rw [oth v j t' h (fun e => by subst e; rw [hp] at hp'; cases hp')]
            exact hvs j t' h hp'
  · intro L act u hI hall
    have fill : ∀ (vs vb : Nat → Value), (∀ (j t : Nat), ds[j]? = some (some t) → act.eval (.tmp t) = if pure j then vb j else vs j) → act = putL ds (fun j => if pure j then vb j else vs j) 0 a := fun vs vb h => by
      refine act_ext (by rw [putL_size]; exact hI.size) (by rw [putL_defers]; exact hI.defers) fun t ht => ?_
      by_cases hm : some t ∈ ds
      · obtain ⟨j, hj⟩ := List.getElem?_of_mem hm
        rw [h j t hj, putL_at ds _ t j 0 a H.once hj (hsz t hm), Nat.zero_add]
      · rw [putL_other ds _ t 0 a (fun d hd e => hm (e ▸ hd))]
        exact hI.frame t (fun j _ e => hm (List.mem_of_getElem? e))
    by_cases hs : s < ops.size
    · obtain ⟨u0, vs, hb, hf, hv, hP⟩ := hI.have1 (hall s hs)
      have ev : ∀ (j t : Nat), ds[j]? = some (some t) → act.eval (.tmp t) = if pure j then (fun j => act.eval (.tmp ((ds[j]?.getD none).getD 0))) j else vs j := fun j t h => by
        cases hp : pure j with
        | true => simp [h]
        | false => simpa using hv j t h hp
      rw [fill vs _ ev]
      refine fin vs _ u0 u hb (fun j t h => ?_) (by rw [if_pos hs]; exact hP)
      rw [← ev j t h]
      exact hf j t h (hall j (hlt j t h))
    · have hLs : L s = false ∨ L s = true := by cases L s <;> simp
      rcases hLs with hLs | hLs
      · obtain ⟨hb, hf⟩ := hI.have0 hLs
        have ev : ∀ (j t : Nat), ds[j]? = some (some t) → act.eval (.tmp t) = if pure j then (fun j => act.eval (.tmp ((ds[j]?.getD none).getD 0))) j else (fun j => act.eval (.tmp ((ds[j]?.getD none).getD 0))) j := fun j t h => by simp [h]
        rw [fill _ _ ev]
        refine fin _ _ u u hb (fun j t h => ?_) (by rw [if_neg hs])
        rw [← ev j t h]
        exact hf j t h (hall j (hlt j t h))
      · exact absurd (hI.inb s hLs) hs
end Go.Proofs.YtljmggemdkfbiaaGreat
