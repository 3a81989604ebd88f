/- As RegR's region_r, with guarded operations whose guards all say yes: what a guard tells is one fact. -/
import Derived.Test.YtljmggemdkfbiaaGreatRegU
namespace Go.Proofs.YtljmggemdkfbiaaGreat
open Go.RowKit
set_option linter.unusedSimpArgs false
set_option linter.unusedVariables false

/-- What must hold of the operations, by reckoning: a guarded one waits for its guard. -/
def wellG (ops : Array Oper) (ds : List (Option Nat)) : Bool :=
  lowB2 ops && onceB ds && (ds.length == ops.size) && (List.range ops.size).all fun j => match ops[j]? with
    | none => true
    | some o => (ds[j]? == some o.dst) && match o.guard with
      | none => true
      | some (g, _) => edgeB ops j g && (match ds[g]? with
        | some (some _) => true
        | _ => false)
theorem bool_tmp {a : Act} {t : Nat} {b : Bool} (h : a.eval (.tmp t) = .bool b) (ht : t < a.tmps.size) : a.tmps[t]? = some (.bool b) := by
  have : a.tmps.getD t undef = .bool b := h
  rw [Array.getD_eq_getD_getElem?, Array.getElem?_eq_getElem ht] at this
  rw [Array.getElem?_eq_getElem ht]
  simpa using this
theorem region_g {F : Fence} {n : Nat} {P : Program} {ops : Array Oper} {Q : Exit → Act → World → Prop} {a : Act} {W : World} {id : Nat} (hm : P.follows .mixedOrders = true) (R : World → World → Prop) (ds : List (Option Nat)) (hw : wellG ops ds = true)
    (hsz0 : ds.all (fun d => match d with | some t => Nat.blt t a.tmps.size | none => true) = true) (h0 : R W W.drew) (hR : ∀ {x y z}, R x y → R y z → R x z) (facts : Nat → Value → World → Prop) (mono : ∀ j v u u', R W u → R u u' → facts j v u → facts j v u')
    (hG : ∀ (j : Nat) (o : Oper) (g : Nat) (b : Bool) (v : Value) (u : World), ops[j]? = some o → o.guard = some (g, b) → facts g v u → v = .bool b)
    (step : ∀ (j : Nat) (o : Oper) (act : Act) (u : World), ops[j]? = some o → act.tmps.size = a.tmps.size → R W u → (∀ t, some t ∉ ds → act.eval (.tmp t) = a.eval (.tmp t)) → (∀ e ∈ o.after, Region.binds .any e = true → ∀ t, ds[e.on]? = some (some t) → facts e.on (act.eval (.tmp t)) u) → (∀ e ∈ o.after, Region.binds .any e = true → ds[e.on]? = some none → facts e.on undef u) →
      Oper.wpIn F n P o act u (fun act' u' => ∃ v, act' = act.put o.dst v ∧ facts j (if o.dst.isSome then v else undef) u' ∧ R u u') Q)
    (fin : ∀ (vs : Nat → Value) (u : World), R W u → (∀ (j : Nat) (t : Nat), ds[j]? = some (some t) → facts j (vs j) u) → (∀ (j : Nat), ds[j]? = some none → facts j undef u) → Q .normal (putL ds vs 0 a) u) :
    (Code.region id ops true).wpIn F n P Q a W := by
  simp only [wellG, Bool.and_eq_true] at hw
  obtain ⟨⟨⟨hlow, honce⟩, hlen⟩, hall'⟩ := hw
  have hlen' : ds.length = ops.size := by simpa using hlen
  have key : ∀ (j : Nat) (o : Oper), ops[j]? = some o → ds[j]? = some o.dst ∧ ∀ g b, o.guard = some (g, b) → edgeB ops j g = true ∧ ∃ t, ds[g]? = some (some t) := fun j o ho => by
    have h := List.all_eq_true.1 hall' j (by simpa using (Array.getElem?_eq_some_iff.1 ho).1)
    rw [ho] at h
    simp only [Bool.and_eq_true, beq_iff_eq] at h
    refine ⟨h.1, fun g b hg => ?_⟩
    have h2 := h.2
    rw [hg] at h2
    simp only [Bool.and_eq_true] at h2
    refine ⟨h2.1, ?_⟩
    have h3 := h2.2
    cases hd : ds[g]? with
    | none => rw [hd] at h3; cases h3
    | some d =>
      cases d with
      | none => rw [hd] at h3; cases h3
      | some t => exact ⟨t, rfl⟩
  have hsz : ∀ t, some t ∈ ds → t < a.tmps.size := fun t ht => by have := List.all_eq_true.1 hsz0 _ ht; rw [Nat.blt_eq] at this; exact this
  have hlt : ∀ (j : Nat) d, ds[j]? = some d → j < ops.size := fun j d h => by have := (List.getElem?_eq_some_iff.1 h).1; rw [hlen'] at this; exact this
  have hne := once_ne honce
  refine region_facts2 hm (lowB2_low hlow) (RR R W a ops ds facts) ?_ ?_ ?_
  · exact ⟨rfl, rfl, fun _ _ => rfl, h0, (by intro _ _ _ h; cases h), (by intro _ _ h; cases h)⟩
  · intro L act u i o hI ho hLi hall
    have hdi := (key i o ho).1
    have hwant : Region.wanted o (yielded ops act.tmps) = true := by
      cases hgd : o.guard with
      | none => simp [Region.wanted, hgd]
      | some gb =>
        obtain ⟨g, b⟩ := gb
        obtain ⟨he, t, ht⟩ := (key i o ho).2 g b hgd
        obtain ⟨o', e, ho', hea, hej, hb⟩ := edge_of he
        rw [ho] at ho'
        cases ho'
        have hLg : L g = true := by rw [← hej]; exact hall e hea hb
        have hv := hG i o g b _ u ho hgd (hI.val g t ht hLg)
        have hog : ∃ og, ops[g]? = some og := ⟨_, Array.getElem?_eq_getElem (hlt g _ ht)⟩
        obtain ⟨og, hog⟩ := hog
        have hdg : og.dst = some t := by have := (key g og hog).1; rw [ht] at this; exact (Option.some.inj this).symm
        have hy : yielded ops act.tmps g = some b := by
          unfold yielded
          rw [hog]
          simp only [Option.bind_some, hdg, bool_tmp hv (by rw [hI.size]; exact hsz t (List.mem_of_getElem? ht))]
        simp [Region.wanted, hgd, hy]
    unfold wpOpIn
    rw [ho]
    show if _ then _ else _
    rw [if_pos hwant]
    have hfr : ∀ t, some t ∉ ds → act.eval (.tmp t) = a.eval (.tmp t) := fun t ht => hI.frame t (fun j _ e => ht (List.mem_of_getElem? e))
    refine Oper.wpIn_mono ?_ (step i o act u ho hI.size hI.rel hfr (fun e he hbe t' ht' => hI.val e.on t' ht' (hall e he hbe)) (fun e he hbe hd => hI.non e.on hd (hall e he hbe)))
    rintro act' u' ⟨v, rfl, hf, hr⟩
    have hval : ∀ (j t : Nat), ds[j]? = some (some t) → (L j || (j == i)) = true → facts j ((act.put o.dst v).eval (.tmp t)) u' := fun j t h hj => by
      by_cases e : j = i
      · subst e
        rw [hdi] at h
        have hd : o.dst = some t := Option.some.inj h
        rw [hd] at hf ⊢
        rw [eval_put_same (by rw [hI.size]; exact hsz t (List.mem_of_getElem? (by rw [hdi, hd])))]
        exact hf
      · have hLj : L j = true := by
          rw [Bool.or_eq_true] at hj
          rcases hj with hj | hj
          · exact hj
          · exact absurd (by simpa using hj) e
        rw [eval_put_ne (fun e2 => hne j i t t h (by rw [hdi, e2]) e rfl)]
        exact mono j _ u u' hI.rel hr (hI.val j t h hLj)
    refine ⟨by rw [size_put]; exact hI.size, by rw [defers_put]; exact hI.defers, fun t ht => ?_, hR hI.rel hr, hval, fun j hd hj => ?_⟩
    · rw [eval_put_ne (fun e => ht i (by simp) (by rw [hdi, e]))]
      exact hI.frame t (fun j hj => ht j (by rw [hj]; rfl))
    · by_cases e : j = i
      · subst e
        rw [hdi] at hd
        have hd' : o.dst = none := Option.some.inj hd
        rw [hd'] at hf
        exact hf
      · have hLj : L j = true := by
          rw [Bool.or_eq_true] at hj
          rcases hj with hj | hj
          · exact hj
          · exact absurd (by simpa using hj) e
        exact mono j _ u u' hI.rel hr (hI.non j hd hLj)
  · intro L act u hI hall
    have hL : ∀ j d, ds[j]? = some d → L j = true := fun j d h => hall j (hlt j d h)
    have e : act = putL ds (fun j => act.eval (.tmp ((ds[j]?.getD none).getD 0))) 0 a := by
      refine act_ext (by rw [putL_size]; exact hI.size) (by rw [putL_defers]; exact hI.defers) fun t ht => ?_
      by_cases hm' : some t ∈ ds
      · obtain ⟨j, hj⟩ := List.getElem?_of_mem hm'
        rw [putL_at ds _ t j 0 a honce hj (by rw [← hI.size]; exact ht), Nat.zero_add, hj]
        rfl
      · rw [putL_other ds _ t 0 a (fun d hd e => hm' (by rw [← e]; exact hd))]
        exact hI.frame t (fun j _ e => hm' (List.mem_of_getElem? e))
    rw [e]
    exact fin _ u hI.rel (fun j t h => by have := hI.val j t h (hL j _ h); simpa [h] using this) (fun j h => hI.non j h (hL j _ h))
end Go.Proofs.YtljmggemdkfbiaaGreat
