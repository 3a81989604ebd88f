/- A region that draws its order and ends in an append (or what else turns a row) and a store of what it told: by one fact an operation, whatever their order. -/
import Derived.Test.YtljmggemdkfbiaaGreatRegQ
namespace Go.Proofs.YtljmggemdkfbiaaGreat
open Go.RowKit
set_option linter.unusedSimpArgs false
set_option linter.unusedVariables false

/-- What must hold of the operations, by reckoning: the one at s turns the row, the one behind it stores. -/
def wellA (ops : Array Oper) (ds : List (Option Nat)) (s : Nat) : Bool :=
  lowB2 ops && onceB ds && (ds.length == ops.size) && (ops.size == s + 2) && (match ops[s + 1]? with | some o => o.dst.isNone && o.after.any (fun e => (e.on == s) && Region.binds .any e) | none => false) && (List.range ops.size).all fun j => match ops[j]? with
    | none => true
    | some o => o.guard.isNone && (ds[j]? == some o.dst) && (if j == s + 1 then true else o.dst.isSome) && (if j < s then (List.range (s + 1)).any (fun i => decide (j < i) && match ops[i]? with
      | some o' => o'.after.any fun e => (e.on == j) && Region.binds .any e
      | none => false) else true)
structure WellA (ops : Array Oper) (ds : List (Option Nat)) (s : Nat) : Prop where
  low : lowB2 ops = true
  once : onceB ds = true
  len : ds.length = ops.size
  size : ops.size = s + 2
  guard : ∀ (j : Nat) (o : Oper), ops[j]? = some o → o.guard = none
  dst : ∀ (j : Nat) (o : Oper), ops[j]? = some o → ds[j]? = some o.dst
  got : ∀ (j : Nat) (o : Oper), ops[j]? = some o → j ≠ s + 1 → ∃ t, o.dst = some t
  last : ∀ (o : Oper), ops[s + 1]? = some o → o.dst = none ∧ ∃ e ∈ o.after, e.on = s ∧ Region.binds .any e = true
  used : ∀ j, j < s → ∃ (i : Nat) (o' : Oper) (e : Edge), j < i ∧ i ≤ s ∧ ops[i]? = some o' ∧ e ∈ o'.after ∧ e.on = j ∧ Region.binds .any e = true
theorem wellA_well {ops : Array Oper} {ds : List (Option Nat)} {s : Nat} (h : wellA ops ds s = true) : WellA ops ds s := by
  simp only [wellA, Bool.and_eq_true] at h
  obtain ⟨⟨⟨⟨⟨h1, h2⟩, h3⟩, h4⟩, h5⟩, h6⟩ := h
  have hsz : ops.size = s + 2 := by simpa using h4
  have key := fun (j : Nat) (o : Oper) (ho : ops[j]? = some o) => by
    have := List.all_eq_true.1 h6 j (by simpa using (Array.getElem?_eq_some_iff.1 ho).1)
    rw [ho] at this
    simp only [Bool.and_eq_true] at this
    exact this
  refine ⟨h1, h2, by simpa using h3, hsz, fun j o ho => by simpa using (key j o ho).1.1.1, fun j o ho => by simpa using (key j o ho).1.1.2, fun j o ho hj => ?_, fun o ho => ?_, fun j hj => ?_⟩
  · have := (key j o ho).1.2
    rw [if_neg (by simpa using hj)] at this
    exact Option.isSome_iff_exists.1 this
  · rw [ho] at h5
    simp only [Bool.and_eq_true, Array.any_eq_true'] at h5
    obtain ⟨h7, e, he, hb⟩ := h5
    simp only [Bool.and_eq_true, beq_iff_eq] at hb
    exact ⟨by simpa using h7, e, he, hb.1, hb.2⟩
  · have hjl : j < ops.size := by omega
    have := (key j _ (Array.getElem?_eq_getElem hjl)).2
    rw [if_pos hj] at this
    simp only [List.any_eq_true, Bool.and_eq_true, decide_eq_true_eq] at this
    obtain ⟨i, hi, hji, hm⟩ := this
    have hi' : i < s + 1 := by simpa using hi
    have his : i < ops.size := by omega
    rw [Array.getElem?_eq_getElem his] at hm
    simp only [Array.any_eq_true'] at hm
    obtain ⟨e, he, hb⟩ := hm
    simp only [Bool.and_eq_true, beq_iff_eq] at hb
    exact ⟨i, _, e, hji, by omega, Array.getElem?_eq_getElem his, he, hb.1, hb.2⟩
/-- Between two of a region's operations. -/
structure RA (W : World) (a : Act) (ops : Array Oper) (ds : List (Option Nat)) (s : Nat) (facts : Nat → Value → World → Prop) (PA PB : (Nat → Value) → Value → World → World → Prop) (L : Nat → Bool) (act : Act) (u : World) : Prop where
  size : act.tmps.size = a.tmps.size
  defers : act.defers = a.defers
  frame : ∀ t, (∀ j, L j = true → ds[j]? ≠ some (some t)) → act.eval (.tmp t) = a.eval (.tmp t)
  shut : ∀ (j : Nat) (o : Oper), ops[j]? = some o → L j = true → ∀ e ∈ o.after, Region.binds .any e = true → L e.on = true
  have0 : L s = false → Bl W u ∧ ∀ (j t : Nat), j < s → ds[j]? = some (some t) → L j = true → facts j (act.eval (.tmp t)) u
  have1 : L s = true → ∃ u0 vs v, Bl W u0 ∧ (∀ (j t : Nat), j < s → ds[j]? = some (some t) → act.eval (.tmp t) = vs j ∧ facts j (vs j) u0) ∧ (∀ t, ds[s]? = some (some t) → act.eval (.tmp t) = v) ∧ (if L (s + 1) then PB vs v u0 u else PA vs v u0 u)
theorem region_qa {F : Fence} {n : Nat} {P : Program} {ops : Array Oper} {Q : Exit → Act → World → Prop} {a : Act} {W : World} {id : Nat} (hm : P.follows .mixedOrders = true) (ds : List (Option Nat)) (s : Nat) (hw : wellA ops ds s = true)
    (hsz0 : ds.all (fun d => match d with | some t => Nat.blt t a.tmps.size | none => true) = true) (facts : Nat → Value → World → Prop) (mono : ∀ j v u u', Bl u u' → facts j v u → facts j v u') (PA PB : (Nat → Value) → Value → World → World → Prop)
    (step : ∀ (j : Nat) (o : Oper) (t : Nat) (act : Act) (u : World), ops[j]? = some o → o.dst = some t → j < s → act.tmps.size = a.tmps.size → Bl W u → (∀ t, some t ∉ ds → act.eval (.tmp t) = a.eval (.tmp t)) → (∀ e ∈ o.after, Region.binds .any e = true → ∀ t, ds[e.on]? = some (some t) → facts e.on (act.eval (.tmp t)) u) →
      Oper.wpIn F n P o act u (fun act' u' => ∃ v, act' = act.put (some t) v ∧ facts j v u' ∧ Bl u u') Q)
    (app : ∀ (o : Oper) (t : Nat) (act : Act) (u : World) (vs : Nat → Value), ops[s]? = some o → o.dst = some t → act.tmps.size = a.tmps.size → Bl W u → (∀ t, some t ∉ ds → act.eval (.tmp t) = a.eval (.tmp t)) → (∀ (j t : Nat), j < s → ds[j]? = some (some t) → act.eval (.tmp t) = vs j ∧ facts j (vs j) u) →
      Oper.wpIn F n P o act u (fun act' u' => ∃ v, act' = act.put (some t) v ∧ PA vs v u u') Q)
    (store : ∀ (o : Oper) (act : Act) (u0 u : World) (vs : Nat → Value) (v : Value), ops[s + 1]? = some o → act.tmps.size = a.tmps.size → Bl W u0 → (∀ t, some t ∉ ds → act.eval (.tmp t) = a.eval (.tmp t)) → (∀ (j t : Nat), j < s → ds[j]? = some (some t) → act.eval (.tmp t) = vs j ∧ facts j (vs j) u0) → (∀ t, ds[s]? = some (some t) → act.eval (.tmp t) = v) → PA vs v u0 u →
      Oper.wpIn F n P o act u (fun act' u' => act' = act ∧ PB vs v u0 u') Q)
    (fin : ∀ (vs : Nat → Value) (v : Value) (u0 u : World), Bl W u0 → (∀ (j t : Nat), j < s → ds[j]? = some (some t) → facts j (vs j) u0) → PB vs v u0 u → Q .normal (putL ds (fun j => if j < s then vs j else v) 0 a) u) :
    (Code.region id ops true).wpIn F n P Q a W := by
  have H := wellA_well hw
  have hsz : ∀ t, some t ∈ ds → t < a.tmps.size := fun t ht => by have := List.all_eq_true.1 hsz0 _ ht; rw [Nat.blt_eq] at this; exact this
  have hlt : ∀ (j t : Nat), ds[j]? = some (some t) → j < ops.size := fun j t h => by have := (List.getElem?_eq_some_iff.1 h).1; rw [H.len] at this; exact this
  have hne : ∀ (i j t t' : Nat), ds[i]? = some (some t) → ds[j]? = some (some t') → i ≠ j → t ≠ t' := by
    have : ∀ (ds : List (Option Nat)), onceB ds = true → ∀ (i j t t' : Nat), ds[i]? = some (some t) → ds[j]? = some (some t') → i < j → t ≠ t' := by
      intro ds
      induction ds with
      | nil => intro _ i j t t' h; simp at h
      | cons d ds ih =>
        intro ho i j t t' h1 h2 hij
        simp only [onceB, Bool.and_eq_true] at ho
        cases j with
        | zero => omega
        | succ j =>
          cases i with
          | zero =>
            simp at h1 h2
            subst h1
            have := ho.1
            simp at this
            exact fun e => this _ (List.mem_of_getElem? h2) (by rw [e])
          | succ i => exact ih ho.2 i j t t' (by simpa using h1) (by simpa using h2) (by omega)
    intro i j t t' h1 h2 hij
    rcases Nat.lt_or_gt_of_ne hij with h | h
    · exact this ds H.once i j t t' h1 h2 h
    · exact (this ds H.once j i t' t h2 h1 h).symm
  have lastno : ∀ t : Nat, ds[s + 1]? ≠ some (some t) := fun t h => by
    have hl := hlt _ t h
    rw [H.dst _ _ (Array.getElem?_eq_getElem hl), (H.last _ (Array.getElem?_eq_getElem hl)).1] at h
    cases h
  refine region_facts2 hm (lowB2_low H.low) (RA W a ops ds s facts PA PB) ?_ ?_ ?_
  · exact ⟨rfl, rfl, fun _ _ => rfl, (by intro _ _ _ h; cases h), fun _ => ⟨(Bl.refl _).drew, (by intro _ _ _ _ h; cases h)⟩, (by intro h; cases h)⟩
  · intro L act u i o hI ho hLi hall
    have hil : i < ops.size := (Array.getElem?_eq_some_iff.1 ho).1
    refine step_wp ho (H.guard i o ho) ?_
    have hfr : ∀ t, some t ∉ ds → act.eval (.tmp t) = a.eval (.tmp t) := fun t ht => hI.frame t (fun j _ e => ht (List.mem_of_getElem? e))
    have shut' : ∀ (j : Nat) (o' : Oper), ops[j]? = some o' → (L j || (j == i)) = true → ∀ e ∈ o'.after, Region.binds .any e = true → (L e.on || (e.on == i)) = true := fun j o' ho' hj e he hb => by
      rw [Bool.or_eq_true] at hj
      rcases hj with hj | hj
      · rw [hI.shut j o' ho' hj e he hb]; rfl
      · obtain rfl : j = i := by simpa using hj
        rw [ho] at ho'
        cases ho'
        rw [hall e he hb]; rfl
    have below : ∀ (o : Oper), ops[s]? = some o → (∀ e ∈ o.after, Region.binds .any e = true → L e.on = true) → ∀ j, j < s → L j = true := by
      intro o ho hall j hj
      have done : ∀ m, ∀ j, s - j ≤ m → j < s → L j = true := by
        intro m
        induction m with
        | zero => intro j h1 h2; omega
        | succ m ih =>
          intro j h1 h2
          obtain ⟨k, o', e, hjk, hki, ho', he, hej, hbe⟩ := H.used j h2
          subst hej
          by_cases hk : k = s
          · subst hk
            rw [ho] at ho'
            cases ho'
            exact hall e he hbe
          · exact hI.shut k o' ho' (ih k (by omega) (by omega)) e he hbe
      exact done _ j (Nat.le_refl _) hj
    by_cases hi1 : i = s + 1
    · subst hi1
      obtain ⟨hd, e, he, hes, hbe⟩ := H.last o ho
      have hLs : L s = true := by have := hall e he hbe; rwa [hes] at this
      obtain ⟨u0, vs, v, hb, hf, hv, hP⟩ := hI.have1 hLs
      rw [hLi] at hP
      refine Oper.wpIn_mono ?_ (store o act u0 u vs v ho hI.size hb hfr hf hv hP)
      rintro act' u' ⟨rfl, hP'⟩
      refine ⟨hI.size, hI.defers, fun t ht => hI.frame t (fun j hj => ht j (by rw [hj]; rfl)), shut', fun h => by simp [hLs] at h, fun _ => ⟨u0, vs, v, hb, hf, hv, by simpa using hP'⟩⟩
    · obtain ⟨t, hdt⟩ := H.got i o ho hi1
      have hdi : ds[i]? = some (some t) := by rw [H.dst i o ho, hdt]
      have htl : t < act.tmps.size := by rw [hI.size]; exact hsz t (List.mem_of_getElem? hdi)
      have oth : ∀ (v : Value) (j t' : Nat), ds[j]? = some (some t') → j ≠ i → (act.put (some t) v).eval (.tmp t') = act.eval (.tmp t') := fun v j t' h hj => eval_put_other (hne j i t' t h hdi hj)
      have frame' : ∀ v, ∀ t', (∀ j, (L j || (j == i)) = true → ds[j]? ≠ some (some t')) → (act.put (some t) v).eval (.tmp t') = a.eval (.tmp t') := fun v t' h => by
        have h1 : t' ≠ t := fun e => h i (by simp) (by rw [e]; exact hdi)
        rw [eval_put_other h1]
        exact hI.frame t' (fun j hj => h j (by rw [hj]; rfl))
      have lastL : L s = false → L (s + 1) = false := fun h => by
        cases hh : L (s + 1) with
        | false => rfl
        | true =>
          have hl : s + 1 < ops.size := by rw [H.size]; omega
          obtain ⟨_, e, he, hes, hbe⟩ := H.last _ (Array.getElem?_eq_getElem hl)
          have := hI.shut _ _ (Array.getElem?_eq_getElem hl) hh e he hbe
          rw [hes, h] at this
          cases this
      by_cases his : i = s
      · subst his
        obtain ⟨hb, hf⟩ := hI.have0 hLi
        have vals : ∀ (j t : Nat), ds[j]? = some (some t) → act.eval (.tmp t) = (fun j => act.eval (.tmp ((ds[j]?.getD none).getD 0))) j := fun j t h => by simp [h]
        have hL1 := lastL hLi
        refine Oper.wpIn_mono ?_ (app o t act u (fun j => act.eval (.tmp ((ds[j]?.getD none).getD 0))) ho hdt hI.size hb hfr (fun j t' hj h => ⟨vals j t' h, by have := hf j t' hj h (below o ho hall j hj); rw [vals j t' h] at this; exact this⟩))
        rintro act' u' ⟨v, rfl, hP⟩
        refine ⟨by rw [size_put]; exact hI.size, by rw [defers_put]; exact hI.defers, frame' v, shut', fun h => by simp at h, fun _ => ⟨u, (fun j => act.eval (.tmp ((ds[j]?.getD none).getD 0))), v, hb, fun j t' hj h => ⟨?_, ?_⟩, fun t' h => ?_, ?_⟩⟩
        · rw [oth v j t' h (by omega)]; exact vals j t' h
        · have := hf j t' hj h (below o ho hall j hj); rw [vals j t' h] at this; exact this
        · rw [hdi] at h
          cases h
          exact eval_put_same htl
        · rw [if_neg (by simp [hL1])]
          exact hP
      · have hilt : i < s := by have := H.size; omega
        have hLs0 : L s = false := by
          cases hh : L s with
          | false => rfl
          | true =>
            have hl : s < ops.size := by rw [H.size]; omega
            have := below _ (Array.getElem?_eq_getElem hl) (fun e he hb => hI.shut s _ (Array.getElem?_eq_getElem hl) hh e he hb) i hilt
            rw [this] at hLi
            cases hLi
        obtain ⟨hb, hf⟩ := hI.have0 hLs0
        have hon : ∀ e ∈ o.after, Region.binds .any e = true → e.on < s := fun e he hbe => by have := lowB2_low H.low i o ho e he hbe; omega
        refine Oper.wpIn_mono ?_ (step i o t act u ho hdt hilt hI.size hb hfr (fun e he hbe t' ht' => hf e.on t' (hon e he hbe) ht' (hall e he hbe)))
        rintro act' u' ⟨v, rfl, hv, hb'⟩
        have hsi : (L s || (s == i)) = false := by
          have : (s == i) = false := by simpa using fun e => his e.symm
          rw [this, hLs0]; rfl
        refine ⟨by rw [size_put]; exact hI.size, by rw [defers_put]; exact hI.defers, frame' v, shut', fun _ => ⟨hb.trans hb', fun j t' hj' h hj => ?_⟩, fun h => by rw [hsi] at h; cases h⟩
        by_cases hji : j = i
        · subst hji
          rw [hdi] at h
          cases h
          rw [eval_put_same htl]
          exact hv
        · rw [oth v j t' h hji]
          exact mono _ _ _ _ hb' (hf j t' hj' h (by rw [Bool.or_eq_true] at hj; exact hj.resolve_right (by simpa using hji)))
  · intro L act u hI hall
    obtain ⟨u0, vs, v, hb, hf, hv, hP⟩ := hI.have1 (hall s (by rw [H.size]; omega))
    rw [if_pos (hall (s + 1) (by rw [H.size]; omega))] at hP
    have ev : ∀ (j t : Nat), ds[j]? = some (some t) → act.eval (.tmp t) = if j < s then vs j else v := fun j t h => by
      by_cases hj : j < s
      · rw [if_pos hj]; exact (hf j t hj h).1
      · rw [if_neg hj]
        have := hlt j t h
        rw [H.size] at this
        rcases (by omega : j = s ∨ j = s + 1) with rfl | rfl
        · exact hv t h
        · exact absurd h (lastno t)
    have e : act = putL ds (fun j => if j < s then vs j else v) 0 a := by
      refine act_ext (by rw [putL_size]; exact hI.size) (by rw [putL_defers]; exact hI.defers) fun t ht => ?_
      by_cases hm : some t ∈ ds
      · obtain ⟨j, hj⟩ := List.getElem?_of_mem hm
        rw [ev j t hj, putL_at ds _ t j 0 a H.once hj (hsz t hm), Nat.zero_add]
      · rw [putL_other ds _ t 0 a (fun d hd e => hm (e ▸ hd))]
        exact hI.frame t (fun j _ e => hm (List.mem_of_getElem? e))
    rw [e]
    exact fin vs v u0 u hb (fun j t hj h => (hf j t hj h).2) hP
end Go.Proofs.YtljmggemdkfbiaaGreat
