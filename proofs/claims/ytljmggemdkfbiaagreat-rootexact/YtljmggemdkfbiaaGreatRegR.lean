/- A region that draws its order, over any frame, inside any fence: its operations keep a relation of worlds, stores among them; one fact an operation, whatever their order. -/
import Derived.Test.YtljmggemdkfbiaaGreatRegQ
namespace Go.Proofs.YtljmggemdkfbiaaGreat
open Go.RowKit
set_option linter.unusedSimpArgs false
set_option linter.unusedVariables false

/-- What must hold of the operations, by reckoning. -/
def wellR (ops : Array Oper) (ds : List (Option Nat)) : Bool :=
  lowB2 ops && onceB ds && (ds.length == ops.size) && (List.range ops.size).all fun j => match ops[j]? with
    | none => true
    | some o => o.guard.isNone && (ds[j]? == some o.dst)
/-- Between two of a region's operations. -/
structure RR (R : World → World → Prop) (W : World) (a : Act) (ops : Array Oper) (ds : List (Option Nat)) (facts : Nat → Value → World → Prop) (L : Nat → Bool) (act : Act) (u : World) : Prop where
  size : act.tmps.size = a.tmps.size
  defers : act.defers = a.defers
  frame : ∀ t, (∀ j, L j = true → ds[j]? ≠ some (some t)) → act.eval (.tmp t) = a.eval (.tmp t)
  rel : R W u
  val : ∀ (j t : Nat), ds[j]? = some (some t) → L j = true → facts j (act.eval (.tmp t)) u
  non : ∀ (j : Nat), ds[j]? = some none → L j = true → facts j undef u
theorem once_ne {ds : List (Option Nat)} (ho : onceB ds = true) : ∀ (i j t t' : Nat), ds[i]? = some (some t) → ds[j]? = some (some t') → i ≠ j → t ≠ t' := by
  have : ∀ (ds : List (Option Nat)), onceB ds = true → ∀ (i j t t' : Nat), ds[i]? = some (some t) → ds[j]? = some (some t') → i < j → t ≠ t' := by
    intro ds
    induction ds with
    | nil => intro _ i j t t' h; simp at h
    | cons d ds ih =>
      intro ho i j t t' h1 h2 hij
      simp only [onceB, Bool.and_eq_true] at ho
      cases j with
      | zero => omega
      | succ j =>
        cases i with
        | zero =>
          simp at h1 h2
          subst h1
          have := ho.1
          simp at this
          exact fun e => this _ (List.mem_of_getElem? h2) (by rw [e])
        | succ i => exact ih ho.2 i j t t' (by simpa using h1) (by simpa using h2) (by omega)
  intro i j t t' h1 h2 hij
  rcases Nat.lt_or_gt_of_ne hij with h | h
  · exact this ds ho i j t t' h1 h2 h
  · exact (this ds ho j i t' t h2 h1 h).symm
theorem region_r {F : Fence} {n : Nat} {P : Program} {ops : Array Oper} {Q : Exit → Act → World → Prop} {a : Act} {W : World} {id : Nat} (hm : P.follows .mixedOrders = true) (R : World → World → Prop) (ds : List (Option Nat)) (hw : wellR ops ds = true)
    (hsz0 : ds.all (fun d => match d with | some t => Nat.blt t a.tmps.size | none => true) = true) (h0 : R W W.drew) (hR : ∀ {x y z}, R x y → R y z → R x z) (facts : Nat → Value → World → Prop) (mono : ∀ j v u u', R W u → R u u' → facts j v u → facts j v u')
    (step : ∀ (j : Nat) (o : Oper) (act : Act) (u : World), ops[j]? = some o → act.tmps.size = a.tmps.size → R W u → (∀ t, some t ∉ ds → act.eval (.tmp t) = a.eval (.tmp t)) → (∀ e ∈ o.after, Region.binds .any e = true → ∀ t, ds[e.on]? = some (some t) → facts e.on (act.eval (.tmp t)) u) → (∀ e ∈ o.after, Region.binds .any e = true → ds[e.on]? = some none → facts e.on undef u) →
      Oper.wpIn F n P o act u (fun act' u' => ∃ v, act' = act.put o.dst v ∧ facts j (if o.dst.isSome then v else undef) u' ∧ R u u') Q)
    (fin : ∀ (vs : Nat → Value) (u : World), R W u → (∀ (j : Nat) (t : Nat), ds[j]? = some (some t) → facts j (vs j) u) → (∀ (j : Nat), ds[j]? = some none → facts j undef u) → Q .normal (putL ds vs 0 a) u) :
    (Code.region id ops true).wpIn F n P Q a W := by
  simp only [wellR, Bool.and_eq_true] at hw
  obtain ⟨⟨⟨hlow, honce⟩, hlen⟩, hall'⟩ := hw
  have hlen' : ds.length = ops.size := by simpa using hlen
  have key : ∀ (j : Nat) (o : Oper), ops[j]? = some o → o.guard = none ∧ ds[j]? = some o.dst := fun j o ho => by
    have := List.all_eq_true.1 hall' j (by simpa using (Array.getElem?_eq_some_iff.1 ho).1)
    rw [ho] at this
    simpa using this
  have hsz : ∀ t, some t ∈ ds → t < a.tmps.size := fun t ht => by have := List.all_eq_true.1 hsz0 _ ht; rw [Nat.blt_eq] at this; exact this
  have hlt : ∀ (j : Nat) d, ds[j]? = some d → j < ops.size := fun j d h => by have := (List.getElem?_eq_some_iff.1 h).1; rw [hlen'] at this; exact this
  have hne := once_ne honce
  refine region_facts2 hm (lowB2_low hlow) (RR R W a ops ds facts) ?_ ?_ ?_
  · exact ⟨rfl, rfl, fun _ _ => rfl, h0, (by intro _ _ _ h; cases h), (by intro _ _ h; cases h)⟩
  · intro L act u i o hI ho hLi hall
    refine step_wp ho (key i o ho).1 ?_
    have hdi := (key i o ho).2
    have hfr : ∀ t, some t ∉ ds → act.eval (.tmp t) = a.eval (.tmp t) := fun t ht => hI.frame t (fun j _ e => ht (List.mem_of_getElem? e))
    refine Oper.wpIn_mono ?_ (step i o act u ho hI.size hI.rel hfr (fun e he hbe t' ht' => hI.val e.on t' ht' (hall e he hbe)) (fun e he hbe hd => hI.non e.on hd (hall e he hbe)))
    rintro act' u' ⟨v, rfl, hf, hr⟩
    have hval : ∀ (j t : Nat), ds[j]? = some (some t) → (L j || (j == i)) = true → facts j ((act.put o.dst v).eval (.tmp t)) u' := fun j t h hj => by
      by_cases e : j = i
      · subst e
        rw [hdi] at h
        have hd : o.dst = some t := Option.some.inj h
        rw [hd] at hf ⊢
        rw [eval_put_same (by rw [hI.size]; exact hsz t (List.mem_of_getElem? (by rw [hdi, hd])))]
        exact hf
      · have hLj : L j = true := by
          rw [Bool.or_eq_true] at hj
          rcases hj with hj | hj
          · exact hj
          · exact absurd (by simpa using hj) e
        rw [eval_put_ne (fun e2 => hne j i t t h (by rw [hdi, e2]) e rfl)]
        exact mono j _ u u' hI.rel hr (hI.val j t h hLj)
    refine ⟨by rw [size_put]; exact hI.size, by rw [defers_put]; exact hI.defers, fun t ht => ?_, hR hI.rel hr, hval, fun j hd hj => ?_⟩
    · rw [eval_put_ne (fun e => ht i (by simp) (by rw [hdi, e]))]
      exact hI.frame t (fun j hj => ht j (by rw [hj]; rfl))
    · by_cases e : j = i
      · subst e
        rw [hdi] at hd
        have hd' : o.dst = none := Option.some.inj hd
        rw [hd'] at hf
        exact hf
      · have hLj : L j = true := by
          rw [Bool.or_eq_true] at hj
          rcases hj with hj | hj
          · exact hj
          · exact absurd (by simpa using hj) e
        exact mono j _ u u' hI.rel hr (hI.non j hd hLj)
  · intro L act u hI hall
    have hL : ∀ j d, ds[j]? = some d → L j = true := fun j d h => hall j (hlt j d h)
    have e : act = putL ds (fun j => act.eval (.tmp ((ds[j]?.getD none).getD 0))) 0 a := by
      refine act_ext (by rw [putL_size]; exact hI.size) (by rw [putL_defers]; exact hI.defers) fun t ht => ?_
      by_cases hm' : some t ∈ ds
      · obtain ⟨j, hj⟩ := List.getElem?_of_mem hm'
        rw [putL_at ds _ t j 0 a honce hj (by rw [← hI.size]; exact ht), Nat.zero_add, hj]
        rfl
      · rw [putL_other ds _ t 0 a (fun d hd e => hm' (by rw [← e]; exact hd))]
        exact hI.frame t (fun j _ e => hm' (List.mem_of_getElem? e))
    rw [e]
    exact fin _ u hI.rel (fun j t h => by have := hI.val j t h (hL j _ h); simpa [h] using this) (fun j h => hI.non j h (hL j _ h))
end Go.Proofs.YtljmggemdkfbiaaGreat
