/- Contract of root's change, of fractions (layer 10). Written by genRo.py. -/
import Derived.Test.YtljmggemdkfbiaaGreatVC
import Derived.Test.YtljmggemdkfbiaaGreatVB
import Derived.Test.YtljmggemdkfbiaaGreatVA
import Derived.Test.YtljmggemdkfbiaaGreatWlr
import Derived.Test.YtljmggemdkfbiaaGreatFr6
/- A region that draws its order: operations that read, or lay blocks; then a call; of the three that it tells two are stored in new blocks, each of its own. -/
namespace Go.Proofs.YtljmggemdkfbiaaGreat
open Go.RowKit
set_option linter.unusedSimpArgs false
set_option linter.unusedVariables false

/-- Operation i waits for operation j. -/
def edgeB (ops : Array Oper) (i j : Nat) : Bool := match ops[i]? with
  | none => false
  | some o => o.after.any fun e => (e.on == j) && Region.binds .any e
theorem edge_of {ops : Array Oper} {i j : Nat} (h : edgeB ops i j = true) : ∃ (o : Oper) (e : Edge), ops[i]? = some o ∧ e ∈ o.after ∧ e.on = j ∧ Region.binds .any e = true := by
  unfold edgeB at h
  cases ho : ops[i]? with
  | none => rw [ho] at h; cases h
  | some o =>
    rw [ho] at h
    simp only [Array.any_eq_true'] at h
    obtain ⟨e, he, hb⟩ := h
    simp only [Bool.and_eq_true, beq_iff_eq] at hb
    exact ⟨o, e, rfl, he, hb.1, hb.2⟩
/-- What must hold of the operations, by reckoning: k is the call's number. -/
def wellU (ops : Array Oper) (ds : List (Option Nat)) (k : Nat) : Bool :=
  lowB2 ops && onceB ds && (ds.length == ops.size) && (ops.size == k + 10) && ((List.range ops.size).all fun j => match ops[j]? with
    | none => true
    | some o => o.guard.isNone && (ds[j]? == some o.dst)) && ((List.range k).all fun j => (List.range (k + 1)).any fun i => decide (j < i) && edgeB ops i j)
    && ((List.range k).all fun j => match ds[j]? with
      | some (some _) => true
      | _ => false) && edgeB ops (k + 1) k && edgeB ops (k + 2) (k + 1) && edgeB ops (k + 3) (k + 1) && edgeB ops (k + 4) (k + 1) && edgeB ops (k + 7) (k + 5) && edgeB ops (k + 7) (k + 2) && edgeB ops (k + 8) (k + 6) && edgeB ops (k + 8) (k + 3) && edgeB ops (k + 8) (k + 7) && edgeB ops (k + 9) (k + 4)
/-- What the call tells, and what becomes of it. -/
structure Upd (δ : Type) where
  v0 : δ → Value
  v1 : δ → Value
  v2 : δ → Value
  dat : δ → World → Prop
  off : δ → Nat → Prop
  za : World → Nat → Prop
  zb : World → Nat → Prop
  sa : δ → World → Nat → Prop
  sb : δ → World → Nat → Prop
structure UpdOk {δ : Type} (U : Upd δ) : Prop where
  dat_bl : ∀ D u u', U.dat D u → Bl u u' → U.dat D u'
  dat_off : ∀ D u b, U.dat D u → u.heap.size ≤ b → U.off D b
  za_heap : ∀ u u' b, U.za u b → b < u.heap.size → u'.heap[b]? = u.heap[b]? → u.heap.size ≤ u'.heap.size → U.za u' b
  zb_heap : ∀ u u' b, U.zb u b → b < u.heap.size → u'.heap[b]? = u.heap[b]? → u.heap.size ≤ u'.heap.size → U.zb u' b
  sa_heap : ∀ D u u' b, U.sa D u b → b < u.heap.size → u'.heap[b]? = u.heap[b]? → u.heap.size ≤ u'.heap.size → U.sa D u' b
  sb_heap : ∀ D u u' b, U.sb D u b → b < u.heap.size → u'.heap[b]? = u.heap[b]? → u.heap.size ≤ u'.heap.size → U.sb D u' b
  ne0 : ∀ u b, U.za u b → U.zb u b → False
  ne1 : ∀ D u b, U.za u b → U.sb D u b → False
  ne2 : ∀ D u b, U.sa D u b → U.zb u b → False
/-- Between two of the operations. -/
structure IU {δ : Type} (U : Upd δ) (W : World) (a : Act) (ops : Array Oper) (ds : List (Option Nat)) (k t0 tm d0 d1 d2 dA dB dC : Nat) (facts : Nat → Value → World → Prop) (L : Nat → Bool) (act : Act) (u : World) : Prop where
  size : act.tmps.size = a.tmps.size
  defers : act.defers = a.defers
  frame : ∀ t, (∀ j, L j = true → ds[j]? ≠ some (some t)) → act.eval (.tmp t) = a.eval (.tmp t)
  shut : ∀ (j : Nat) (o : Oper), ops[j]? = some o → L j = true → ∀ e ∈ o.after, Region.binds .any e = true → L e.on = true
  bl : Bl W u
  pre : L k = false → ∀ j t, j < k → L j = true → ds[j]? = some (some t) → facts j (act.eval (.tmp t)) u
  A : L (k + 5) = true → ∃ b, act.eval (.tmp dA) = .pointer (some ⟨b, 0, none⟩) ∧ W.heap.size ≤ b ∧ b < u.heap.size ∧ (L (k + 7) = false → U.za u b)
  B : L (k + 6) = true → ∃ b, act.eval (.tmp dB) = .pointer (some ⟨b, 0, none⟩) ∧ W.heap.size ≤ b ∧ b < u.heap.size ∧ (L (k + 8) = false → U.zb u b)
  post : L k = true → ∃ D, act.eval (.tmp t0) = .tuple #[U.v0 D, U.v1 D, U.v2 D] ∧ U.dat D u ∧ (L (k + 1) = true → act.eval (.tmp tm) = .tuple #[U.v0 D, U.v1 D, U.v2 D])
    ∧ (L (k + 2) = true → act.eval (.tmp d0) = U.v0 D) ∧ (L (k + 3) = true → act.eval (.tmp d1) = U.v1 D) ∧ (L (k + 4) = true → act.eval (.tmp d2) = U.v2 D) ∧ (L (k + 9) = true → act.eval (.tmp dC) = U.v2 D)
    ∧ (L (k + 5) = true → ∀ b, act.eval (.tmp dA) = .pointer (some ⟨b, 0, none⟩) → U.off D b ∧ (L (k + 7) = true → U.sa D u b))
    ∧ (L (k + 6) = true → ∀ b, act.eval (.tmp dB) = .pointer (some ⟨b, 0, none⟩) → U.off D b ∧ (L (k + 8) = true → U.sb D u b))
theorem put_other {ds : List (Option Nat)} (ho : onceB ds = true) {i j t t' : Nat} (hi : ds[i]? = some (some t)) (hj : ds[j]? = some (some t')) (hne : j ≠ i) (v : Value) (act : Act) : (act.put (some t) v).eval (.tmp t') = act.eval (.tmp t') :=
  eval_put_ne (fun e => once_ne ho j i t' t hj hi hne (Option.some.inj e).symm)
set_option maxHeartbeats 4000000 in
theorem region_u {δ : Type} {U : Upd δ} (ok : UpdOk U) {F : Fence} {n : Nat} {P : Program} {ops : Array Oper} {Q : Exit → Act → World → Prop} {a : Act} {W : World} {id : Nat} (hm : P.follows .mixedOrders = true) (ds : List (Option Nat)) (k : Nat) (hw : wellU ops ds k = true)
    (hsz0 : ds.all (fun d => match d with | some t => Nat.blt t a.tmps.size | none => true) = true) (t0 tm d0 d1 d2 dA dB dC : Nat) (hds : ds.drop k = [some t0, some tm, some d0, some d1, some d2, some dA, some dB, none, none, some dC])
    (facts : Nat → Value → World → Prop) (mono : ∀ j v u u', Bl u u' → facts j v u → facts j v u')
    (step : ∀ (j : Nat) (o : Oper) (t : Nat) (act : Act) (u : World), j < k → ops[j]? = some o → o.dst = some t → act.tmps.size = a.tmps.size → Bl W u → (∀ t, some t ∉ ds → act.eval (.tmp t) = a.eval (.tmp t)) → (∀ e ∈ o.after, Region.binds .any e = true → ∀ t, ds[e.on]? = some (some t) → facts e.on (act.eval (.tmp t)) u) →
      Oper.wpIn F n P o act u (fun act' u' => ∃ v, act' = act.put (some t) v ∧ facts j v u' ∧ Bl u u') Q)
    (call : ∀ (o : Oper) (act : Act) (u : World), ops[k]? = some o → act.tmps.size = a.tmps.size → Bl W u → (∀ t, some t ∉ ds → act.eval (.tmp t) = a.eval (.tmp t)) → (∀ e ∈ o.after, Region.binds .any e = true → ∀ t, ds[e.on]? = some (some t) → facts e.on (act.eval (.tmp t)) u) →
      Oper.wpIn F n P o act u (fun act' u' => ∃ D, act' = act.put (some t0) (.tuple #[U.v0 D, U.v1 D, U.v2 D]) ∧ U.dat D u' ∧ Bl u u' ∧ ∀ b, b < u.heap.size → W.heap.size ≤ b → U.off D b) Q)
    (mv : ∀ (o : Oper) (act : Act) (u : World) (x : Value), ops[k + 1]? = some o → act.eval (.tmp t0) = x → Oper.wpIn F n P o act u (fun act' u' => act' = act.put (some tm) x ∧ u' = u) Q)
    (x0 : ∀ (o : Oper) (act : Act) (u : World) (x y z : Value), ops[k + 2]? = some o → act.eval (.tmp tm) = .tuple #[x, y, z] → Oper.wpIn F n P o act u (fun act' u' => act' = act.put (some d0) x ∧ u' = u) Q)
    (x1 : ∀ (o : Oper) (act : Act) (u : World) (x y z : Value), ops[k + 3]? = some o → act.eval (.tmp tm) = .tuple #[x, y, z] → Oper.wpIn F n P o act u (fun act' u' => act' = act.put (some d1) y ∧ u' = u) Q)
    (x2 : ∀ (o : Oper) (act : Act) (u : World) (x y z : Value), ops[k + 4]? = some o → act.eval (.tmp tm) = .tuple #[x, y, z] → Oper.wpIn F n P o act u (fun act' u' => act' = act.put (some d2) z ∧ u' = u) Q)
    (la : ∀ (o : Oper) (act : Act) (u : World), ops[k + 5]? = some o → Oper.wpIn F n P o act u (fun act' u' => act' = act.put (some dA) (.pointer (some ⟨u.heap.size, 0, none⟩)) ∧ U.za u' u.heap.size ∧ Bl u u' ∧ u.heap.size < u'.heap.size) Q)
    (lb : ∀ (o : Oper) (act : Act) (u : World), ops[k + 6]? = some o → Oper.wpIn F n P o act u (fun act' u' => act' = act.put (some dB) (.pointer (some ⟨u.heap.size, 0, none⟩)) ∧ U.zb u' u.heap.size ∧ Bl u u' ∧ u.heap.size < u'.heap.size) Q)
    (sa : ∀ (o : Oper) (act : Act) (u : World) (D : δ) (b : Nat), ops[k + 7]? = some o → act.eval (.tmp dA) = .pointer (some ⟨b, 0, none⟩) → act.eval (.tmp d0) = U.v0 D → U.za u b → U.dat D u → U.off D b → Bl W u → W.heap.size ≤ b →
      Oper.wpIn F n P o act u (fun act' u' => act' = act ∧ U.sa D u' b ∧ U.dat D u' ∧ Bl W u' ∧ (∀ b', b' ≠ b → u'.heap[b']? = u.heap[b']?) ∧ u.heap.size ≤ u'.heap.size) Q)
    (sb : ∀ (o : Oper) (act : Act) (u : World) (D : δ) (b : Nat), ops[k + 8]? = some o → act.eval (.tmp dB) = .pointer (some ⟨b, 0, none⟩) → act.eval (.tmp d1) = U.v1 D → U.zb u b → U.dat D u → U.off D b → Bl W u → W.heap.size ≤ b →
      Oper.wpIn F n P o act u (fun act' u' => act' = act ∧ U.sb D u' b ∧ U.dat D u' ∧ Bl W u' ∧ (∀ b', b' ≠ b → u'.heap[b']? = u.heap[b']?) ∧ u.heap.size ≤ u'.heap.size) Q)
    (asg : ∀ (o : Oper) (act : Act) (u : World) (x : Value), ops[k + 9]? = some o → act.eval (.tmp d2) = x → Oper.wpIn F n P o act u (fun act' u' => act' = act.put (some dC) x ∧ u' = u) Q)
    (fin : ∀ (vs : Nat → Value) (u : World) (D : δ) (b1 b2 : Nat), Bl W u → vs (k + 9) = U.v2 D → vs (k + 5) = .pointer (some ⟨b1, 0, none⟩) → vs (k + 6) = .pointer (some ⟨b2, 0, none⟩) → W.heap.size ≤ b1 → W.heap.size ≤ b2 → U.sa D u b1 → U.sb D u b2 → U.dat D u → Q .normal (putL ds vs 0 a) u) :
    (Code.region id ops true).wpIn F n P Q a W := by
  simp only [wellU, Bool.and_eq_true] at hw
  obtain ⟨⟨⟨⟨⟨⟨⟨⟨⟨⟨⟨⟨⟨⟨⟨⟨hlow, honce⟩, hlen⟩, hos⟩, hall'⟩, hused⟩, hsome⟩, e10⟩, e21⟩, e31⟩, e41⟩, e75⟩, e72⟩, e86⟩, e83⟩, e87⟩, e94⟩ := hw
  have hos' : ops.size = k + 10 := by simpa using hos
  have hlen' : ds.length = ops.size := by simpa using hlen
  have key : ∀ (j : Nat) (o : Oper), ops[j]? = some o → o.guard = none ∧ ds[j]? = some o.dst := fun j o ho => by
    have := List.all_eq_true.1 hall' j (by simpa using (Array.getElem?_eq_some_iff.1 ho).1)
    rw [ho] at this
    simpa using this
  have hsz : ∀ t, some t ∈ ds → t < a.tmps.size := fun t ht => by have := List.all_eq_true.1 hsz0 _ ht; rw [Nat.blt_eq] at this; exact this
  have dk : ∀ i, ds[k + i]? = ([some t0, some tm, some d0, some d1, some d2, some dA, some dB, none, none, some dC] : List (Option Nat))[i]? := fun i => by rw [← hds, List.getElem?_drop]
  have k0 : ds[k]? = some (some t0) := dk 0
  have k1 : ds[k + 1]? = some (some tm) := dk 1
  have k2 : ds[k + 2]? = some (some d0) := dk 2
  have k3 : ds[k + 3]? = some (some d1) := dk 3
  have k4 : ds[k + 4]? = some (some d2) := dk 4
  have k5 : ds[k + 5]? = some (some dA) := dk 5
  have k6 : ds[k + 6]? = some (some dB) := dk 6
  have k7 : ds[k + 7]? = some none := dk 7
  have k8 : ds[k + 8]? = some none := dk 8
  have k9 : ds[k + 9]? = some (some dC) := dk 9
  refine region_facts2 hm (lowB2_low hlow) (IU U W a ops ds k t0 tm d0 d1 d2 dA dB dC facts) ?_ ?_ ?_
  · exact ⟨rfl, rfl, fun _ _ => rfl, (by intro _ _ _ h; cases h), (Bl.refl _).drew, (by intro _ _ _ _ h; cases h), (by intro h; cases h), (by intro h; cases h), (by intro h; cases h)⟩
  · intro L act u i o hI ho hLi hall
    have hil : i < k + 10 := by have := (Array.getElem?_eq_some_iff.1 ho).1; omega
    refine step_wp ho (key i o ho).1 ?_
    have hdi := (key i o ho).2
    have hfr : ∀ t, some t ∉ ds → act.eval (.tmp t) = a.eval (.tmp t) := fun t ht => hI.frame t (fun j _ e => ht (List.mem_of_getElem? e))
    have shut' : ∀ (j : Nat) (o' : Oper), ops[j]? = some o' → (L j || (j == i)) = true → ∀ e ∈ o'.after, Region.binds .any e = true → (L e.on || (e.on == i)) = true := fun j o' ho' hj e he hb => by
      rw [Bool.or_eq_true] at hj
      rcases hj with hj | hj
      · rw [hI.shut j o' ho' hj e he hb]; rfl
      · obtain rfl : j = i := by simpa using hj
        rw [ho] at ho'
        cases ho'
        rw [hall e he hb]; rfl
    have frame' : ∀ (t : Nat) v, o.dst = some t → ∀ t', (∀ j, (L j || (j == i)) = true → ds[j]? ≠ some (some t')) → (act.put (some t) v).eval (.tmp t') = a.eval (.tmp t') := fun t v hd t' h => by
      rw [eval_put_ne (fun e => h i (by simp) (by rw [hdi, hd, e]))]
      exact hI.frame t' (fun j hj => h j (by rw [hj]; rfl))
    have frame0 : ∀ t', (∀ j, (L j || (j == i)) = true → ds[j]? ≠ some (some t')) → act.eval (.tmp t') = a.eval (.tmp t') := fun t' h => hI.frame t' (fun j hj => h j (by rw [hj]; rfl))
    have waits : ∀ j, edgeB ops i j = true → L j = true := fun j h => by
      obtain ⟨o', e, ho', he, hej, hb⟩ := edge_of h
      rw [ho] at ho'
      cases ho'
      rw [← hej]
      exact hall e he hb
    have done : ∀ x y, edgeB ops x y = true → L x = true → L y = true := fun x y h hx => by
      obtain ⟨o', e, ho', he, hej, hb⟩ := edge_of h
      rw [← hej]
      exact hI.shut x o' ho' hx e he hb
    have ohter : ∀ (t : Nat) (v : Value) (j t' : Nat), ds[i]? = some (some t) → ds[j]? = some (some t') → j ≠ i → (act.put (some t) v).eval (.tmp t') = act.eval (.tmp t') := fun t v j t' h1 h2 h3 => put_other honce h1 h2 h3 v act
    have same : ∀ (t : Nat) (v : Value), ds[i]? = some (some t) → (act.put (some t) v).eval (.tmp t) = v := fun t v h => eval_put_same (by rw [hI.size]; exact hsz t (List.mem_of_getElem? h))
    have lt' : ∀ x, x ≠ i → (L x || (x == i)) = L x := fun x hx => by rw [show (x == i) = false by simpa using hx, Bool.or_false]
    have ii : (L i || (i == i)) = true := by simp
    rcases Nat.lt_or_ge i k with hik | hik
    · -- before the call
      have hk0 : L k = false := by
        cases hh : L k with
        | false => rfl
        | true =>
          have clos : ∀ m j, k - j ≤ m → j < k → L j = true := by
            intro m
            induction m with
            | zero => intro j h1 h2; omega
            | succ m ih =>
              intro j h1 h2
              have h3 := List.all_eq_true.1 hused j (by simpa using h2)
              simp only [List.any_eq_true, Bool.and_eq_true, decide_eq_true_eq, List.mem_range] at h3
              obtain ⟨x, hx, hjx, he⟩ := h3
              refine done x j he ?_
              by_cases e : x = k
              · rw [e]; exact hh
              · exact ih x (by omega) (by omega)
          rw [clos (k - i) i (Nat.le_refl _) hik] at hLi
          cases hLi
      have hd : ∃ t, o.dst = some t := by
        have h3 := List.all_eq_true.1 hsome i (by simpa using hik)
        rw [hdi] at h3
        cases hd : o.dst with
        | some t => exact ⟨t, rfl⟩
        | none => rw [hd] at h3; cases h3
      obtain ⟨t, hd⟩ := hd
      have hdt : ds[i]? = some (some t) := by rw [hdi, hd]
      refine Oper.wpIn_mono ?_ (step i o t act u hik ho hd hI.size hI.bl hfr (fun e he hb t' ht' => hI.pre hk0 e.on t' (by have := lowB2_low hlow i o ho e he hb; omega) (hall e he hb) ht'))
      rintro act' u' ⟨v, rfl, hf, hb⟩
      refine ⟨by rw [size_put]; exact hI.size, by rw [defers_put]; exact hI.defers, frame' t v hd, shut', hI.bl.trans hb, fun _ j t' hj hL hdj => ?_, fun h => ?_, fun h => ?_, fun h => ?_⟩
      · by_cases e : j = i
        · subst e
          rw [hdt] at hdj
          cases hdj
          rw [same t v hdt]
          exact hf
        · rw [ohter t v j t' hdt hdj e]
          rw [lt' j e] at hL
          exact mono j _ u u' hb (hI.pre hk0 j t' hj hL hdj)
      · rw [lt' _ (by omega)] at h
        obtain ⟨b, h1, h2, h3, h4⟩ := hI.A h
        refine ⟨b, by rw [ohter t v _ _ hdt k5 (by omega)]; exact h1, h2, Nat.lt_of_lt_of_le h3 hb.size, fun h5 => ?_⟩
        rw [lt' _ (by omega)] at h5
        exact ok.za_heap u u' b (h4 h5) h3 (Below.block hb b h3) hb.size
      · rw [lt' _ (by omega)] at h
        obtain ⟨b, h1, h2, h3, h4⟩ := hI.B h
        refine ⟨b, by rw [ohter t v _ _ hdt k6 (by omega)]; exact h1, h2, Nat.lt_of_lt_of_le h3 hb.size, fun h5 => ?_⟩
        rw [lt' _ (by omega)] at h5
        exact ok.zb_heap u u' b (h4 h5) h3 (Below.block hb b h3) hb.size
      · rw [lt' _ (by omega), hk0] at h
        cases h
    · skip
      have hcase : i = k ∨ i = k + 1 ∨ i = k + 2 ∨ i = k + 3 ∨ i = k + 4 ∨ i = k + 5 ∨ i = k + 6 ∨ i = k + 7 ∨ i = k + 8 ∨ i = k + 9 := by omega
      have fls : ∀ x, (L x = true → False) → L x = false := fun x h => by cases hh : L x with | false => rfl | true => exact (h hh).elim
      have no : ∀ x, L i = true → x := fun x h => by rw [h] at hLi; cases hLi
      have to0 : L (k + 1) = true → L k = true := done _ _ e10
      have to21 : L (k + 2) = true → L k = true := fun h => to0 (done _ _ e21 h)
      have to31 : L (k + 3) = true → L k = true := fun h => to0 (done _ _ e31 h)
      have to41 : L (k + 4) = true → L k = true := fun h => to0 (done _ _ e41 h)
      rcases hcase with rfl | rfl | rfl | rfl | rfl | rfl | rfl | rfl | rfl | rfl
      · -- the call
        have n1 : L (i + 1) = false := fls _ fun h => no _ (to0 h)
        have n2 : L (i + 2) = false := fls _ fun h => no _ (to21 h)
        have n3 : L (i + 3) = false := fls _ fun h => no _ (to31 h)
        have n4 : L (i + 4) = false := fls _ fun h => no _ (to41 h)
        have n7 : L (i + 7) = false := fls _ fun h => no _ (to21 (done _ _ e72 h))
        have n8 : L (i + 8) = false := fls _ fun h => no _ (to31 (done _ _ e83 h))
        have n9 : L (i + 9) = false := fls _ fun h => no _ (to41 (done _ _ e94 h))
        have hd : o.dst = some t0 := by rw [hdi] at k0; exact Option.some.inj k0
        refine Oper.wpIn_mono ?_ (call o act u ho hI.size hI.bl hfr (fun e he hb t' ht' => hI.pre hLi e.on t' (lowB2_low hlow i o ho e he hb) (hall e he hb) ht'))
        rintro act' u' ⟨D, rfl, hdat, hb, hoff⟩
        refine ⟨by rw [size_put]; exact hI.size, by rw [defers_put]; exact hI.defers, frame' t0 _ hd, shut', hI.bl.trans hb, fun h => (by rw [ii] at h; cases h), fun h => ?_, fun h => ?_, fun _ => ⟨D, same _ _ k0, hdat, fun h => ?_, fun h => ?_, fun h => ?_, fun h => ?_, fun h => ?_, fun h b hb1 => ?_, fun h b hb1 => ?_⟩⟩
        · rw [lt' _ (by omega)] at h
          obtain ⟨b, h1, h2, h3, h4⟩ := hI.A h
          exact ⟨b, by rw [ohter _ _ _ _ k0 k5 (by omega)]; exact h1, h2, Nat.lt_of_lt_of_le h3 hb.size, fun _ => ok.za_heap u u' b (h4 n7) h3 (Below.block hb b h3) hb.size⟩
        · rw [lt' _ (by omega)] at h
          obtain ⟨b, h1, h2, h3, h4⟩ := hI.B h
          exact ⟨b, by rw [ohter _ _ _ _ k0 k6 (by omega)]; exact h1, h2, Nat.lt_of_lt_of_le h3 hb.size, fun _ => ok.zb_heap u u' b (h4 n8) h3 (Below.block hb b h3) hb.size⟩
        · rw [lt' _ (by omega), n1] at h; cases h
        · rw [lt' _ (by omega), n2] at h; cases h
        · rw [lt' _ (by omega), n3] at h; cases h
        · rw [lt' _ (by omega), n4] at h; cases h
        · rw [lt' _ (by omega), n9] at h; cases h
        · rw [lt' _ (by omega)] at h
          obtain ⟨b', h1, h2, h3, h4⟩ := hI.A h
          rw [ohter _ _ _ _ k0 k5 (by omega), h1] at hb1
          cases hb1
          exact ⟨hoff b h3 h2, fun h7 => by rw [lt' _ (by omega), n7] at h7; cases h7⟩
        · rw [lt' _ (by omega)] at h
          obtain ⟨b', h1, h2, h3, h4⟩ := hI.B h
          rw [ohter _ _ _ _ k0 k6 (by omega), h1] at hb1
          cases hb1
          exact ⟨hoff b h3 h2, fun h7 => by rw [lt' _ (by omega), n8] at h7; cases h7⟩
      · have hLk : L k = true := waits _ e10
        obtain ⟨D, p0, pd, p1, p2, p3, p4, p9, pA, pB⟩ := hI.post hLk
        have hx := p0
        have hd : o.dst = some tm := by rw [hdi] at k1; exact Option.some.inj k1
        refine Oper.wpIn_mono ?_ (mv o act u _ ho hx)
        rintro act' u' ⟨rfl, rfl⟩
        refine ⟨by rw [size_put]; exact hI.size, by rw [defers_put]; exact hI.defers, frame' tm _ hd, shut', hI.bl, fun h => (by rw [lt' _ (by omega), hLk] at h; cases h), fun h => ?_, fun h => ?_, fun _ => ⟨D, by rw [ohter _ _ _ _ k1 k0 (by omega)]; exact p0, pd, fun h => ?_, fun h => ?_, fun h => ?_, fun h => ?_, fun h => ?_, fun h b hb1 => ?_, fun h b hb1 => ?_⟩⟩
        · rw [lt' _ (by omega)] at h
          obtain ⟨b, h1, h2, h3, h4⟩ := hI.A h
          exact ⟨b, by rw [ohter _ _ _ _ k1 k5 (by omega)]; exact h1, h2, h3, fun h5 => h4 (by rw [lt' _ (by omega)] at h5; exact h5)⟩
        · rw [lt' _ (by omega)] at h
          obtain ⟨b, h1, h2, h3, h4⟩ := hI.B h
          exact ⟨b, by rw [ohter _ _ _ _ k1 k6 (by omega)]; exact h1, h2, h3, fun h5 => h4 (by rw [lt' _ (by omega)] at h5; exact h5)⟩
        · exact same _ _ k1
        · rw [lt' _ (by omega)] at h
          rw [ohter _ _ _ _ k1 k2 (by omega)]
          exact p2 h
        · rw [lt' _ (by omega)] at h
          rw [ohter _ _ _ _ k1 k3 (by omega)]
          exact p3 h
        · rw [lt' _ (by omega)] at h
          rw [ohter _ _ _ _ k1 k4 (by omega)]
          exact p4 h
        · rw [lt' _ (by omega)] at h
          rw [ohter _ _ _ _ k1 k9 (by omega)]
          exact p9 h
        · rw [lt' _ (by omega)] at h
          rw [ohter _ _ _ _ k1 k5 (by omega)] at hb1
          obtain ⟨q1, q2⟩ := pA h b hb1
          exact ⟨q1, fun h7 => q2 (by rw [lt' _ (by omega)] at h7; exact h7)⟩
        · rw [lt' _ (by omega)] at h
          rw [ohter _ _ _ _ k1 k6 (by omega)] at hb1
          obtain ⟨q1, q2⟩ := pB h b hb1
          exact ⟨q1, fun h7 => q2 (by rw [lt' _ (by omega)] at h7; exact h7)⟩
      · have hLk : L k = true := to0 (waits _ e21)
        obtain ⟨D, p0, pd, p1, p2, p3, p4, p9, pA, pB⟩ := hI.post hLk
        have hx := p1 (waits _ e21)
        have hd : o.dst = some d0 := by rw [hdi] at k2; exact Option.some.inj k2
        refine Oper.wpIn_mono ?_ (x0 o act u _ _ _ ho hx)
        rintro act' u' ⟨rfl, rfl⟩
        refine ⟨by rw [size_put]; exact hI.size, by rw [defers_put]; exact hI.defers, frame' d0 _ hd, shut', hI.bl, fun h => (by rw [lt' _ (by omega), hLk] at h; cases h), fun h => ?_, fun h => ?_, fun _ => ⟨D, by rw [ohter _ _ _ _ k2 k0 (by omega)]; exact p0, pd, fun h => ?_, fun h => ?_, fun h => ?_, fun h => ?_, fun h => ?_, fun h b hb1 => ?_, fun h b hb1 => ?_⟩⟩
        · rw [lt' _ (by omega)] at h
          obtain ⟨b, h1, h2, h3, h4⟩ := hI.A h
          exact ⟨b, by rw [ohter _ _ _ _ k2 k5 (by omega)]; exact h1, h2, h3, fun h5 => h4 (by rw [lt' _ (by omega)] at h5; exact h5)⟩
        · rw [lt' _ (by omega)] at h
          obtain ⟨b, h1, h2, h3, h4⟩ := hI.B h
          exact ⟨b, by rw [ohter _ _ _ _ k2 k6 (by omega)]; exact h1, h2, h3, fun h5 => h4 (by rw [lt' _ (by omega)] at h5; exact h5)⟩
        · rw [lt' _ (by omega)] at h
          rw [ohter _ _ _ _ k2 k1 (by omega)]
          exact p1 h
        · exact same _ _ k2
        · rw [lt' _ (by omega)] at h
          rw [ohter _ _ _ _ k2 k3 (by omega)]
          exact p3 h
        · rw [lt' _ (by omega)] at h
          rw [ohter _ _ _ _ k2 k4 (by omega)]
          exact p4 h
        · rw [lt' _ (by omega)] at h
          rw [ohter _ _ _ _ k2 k9 (by omega)]
          exact p9 h
        · rw [lt' _ (by omega)] at h
          rw [ohter _ _ _ _ k2 k5 (by omega)] at hb1
          obtain ⟨q1, q2⟩ := pA h b hb1
          exact ⟨q1, fun h7 => q2 (by rw [lt' _ (by omega)] at h7; exact h7)⟩
        · rw [lt' _ (by omega)] at h
          rw [ohter _ _ _ _ k2 k6 (by omega)] at hb1
          obtain ⟨q1, q2⟩ := pB h b hb1
          exact ⟨q1, fun h7 => q2 (by rw [lt' _ (by omega)] at h7; exact h7)⟩
      · have hLk : L k = true := to0 (waits _ e31)
        obtain ⟨D, p0, pd, p1, p2, p3, p4, p9, pA, pB⟩ := hI.post hLk
        have hx := p1 (waits _ e31)
        have hd : o.dst = some d1 := by rw [hdi] at k3; exact Option.some.inj k3
        refine Oper.wpIn_mono ?_ (x1 o act u _ _ _ ho hx)
        rintro act' u' ⟨rfl, rfl⟩
        refine ⟨by rw [size_put]; exact hI.size, by rw [defers_put]; exact hI.defers, frame' d1 _ hd, shut', hI.bl, fun h => (by rw [lt' _ (by omega), hLk] at h; cases h), fun h => ?_, fun h => ?_, fun _ => ⟨D, by rw [ohter _ _ _ _ k3 k0 (by omega)]; exact p0, pd, fun h => ?_, fun h => ?_, fun h => ?_, fun h => ?_, fun h => ?_, fun h b hb1 => ?_, fun h b hb1 => ?_⟩⟩
        · rw [lt' _ (by omega)] at h
          obtain ⟨b, h1, h2, h3, h4⟩ := hI.A h
          exact ⟨b, by rw [ohter _ _ _ _ k3 k5 (by omega)]; exact h1, h2, h3, fun h5 => h4 (by rw [lt' _ (by omega)] at h5; exact h5)⟩
        · rw [lt' _ (by omega)] at h
          obtain ⟨b, h1, h2, h3, h4⟩ := hI.B h
          exact ⟨b, by rw [ohter _ _ _ _ k3 k6 (by omega)]; exact h1, h2, h3, fun h5 => h4 (by rw [lt' _ (by omega)] at h5; exact h5)⟩
        · rw [lt' _ (by omega)] at h
          rw [ohter _ _ _ _ k3 k1 (by omega)]
          exact p1 h
        · rw [lt' _ (by omega)] at h
          rw [ohter _ _ _ _ k3 k2 (by omega)]
          exact p2 h
        · exact same _ _ k3
        · rw [lt' _ (by omega)] at h
          rw [ohter _ _ _ _ k3 k4 (by omega)]
          exact p4 h
        · rw [lt' _ (by omega)] at h
          rw [ohter _ _ _ _ k3 k9 (by omega)]
          exact p9 h
        · rw [lt' _ (by omega)] at h
          rw [ohter _ _ _ _ k3 k5 (by omega)] at hb1
          obtain ⟨q1, q2⟩ := pA h b hb1
          exact ⟨q1, fun h7 => q2 (by rw [lt' _ (by omega)] at h7; exact h7)⟩
        · rw [lt' _ (by omega)] at h
          rw [ohter _ _ _ _ k3 k6 (by omega)] at hb1
          obtain ⟨q1, q2⟩ := pB h b hb1
          exact ⟨q1, fun h7 => q2 (by rw [lt' _ (by omega)] at h7; exact h7)⟩
      · have hLk : L k = true := to0 (waits _ e41)
        obtain ⟨D, p0, pd, p1, p2, p3, p4, p9, pA, pB⟩ := hI.post hLk
        have hx := p1 (waits _ e41)
        have hd : o.dst = some d2 := by rw [hdi] at k4; exact Option.some.inj k4
        refine Oper.wpIn_mono ?_ (x2 o act u _ _ _ ho hx)
        rintro act' u' ⟨rfl, rfl⟩
        refine ⟨by rw [size_put]; exact hI.size, by rw [defers_put]; exact hI.defers, frame' d2 _ hd, shut', hI.bl, fun h => (by rw [lt' _ (by omega), hLk] at h; cases h), fun h => ?_, fun h => ?_, fun _ => ⟨D, by rw [ohter _ _ _ _ k4 k0 (by omega)]; exact p0, pd, fun h => ?_, fun h => ?_, fun h => ?_, fun h => ?_, fun h => ?_, fun h b hb1 => ?_, fun h b hb1 => ?_⟩⟩
        · rw [lt' _ (by omega)] at h
          obtain ⟨b, h1, h2, h3, h4⟩ := hI.A h
          exact ⟨b, by rw [ohter _ _ _ _ k4 k5 (by omega)]; exact h1, h2, h3, fun h5 => h4 (by rw [lt' _ (by omega)] at h5; exact h5)⟩
        · rw [lt' _ (by omega)] at h
          obtain ⟨b, h1, h2, h3, h4⟩ := hI.B h
          exact ⟨b, by rw [ohter _ _ _ _ k4 k6 (by omega)]; exact h1, h2, h3, fun h5 => h4 (by rw [lt' _ (by omega)] at h5; exact h5)⟩
        · rw [lt' _ (by omega)] at h
          rw [ohter _ _ _ _ k4 k1 (by omega)]
          exact p1 h
        · rw [lt' _ (by omega)] at h
          rw [ohter _ _ _ _ k4 k2 (by omega)]
          exact p2 h
        · rw [lt' _ (by omega)] at h
          rw [ohter _ _ _ _ k4 k3 (by omega)]
          exact p3 h
        · exact same _ _ k4
        · rw [lt' _ (by omega)] at h
          rw [ohter _ _ _ _ k4 k9 (by omega)]
          exact p9 h
        · rw [lt' _ (by omega)] at h
          rw [ohter _ _ _ _ k4 k5 (by omega)] at hb1
          obtain ⟨q1, q2⟩ := pA h b hb1
          exact ⟨q1, fun h7 => q2 (by rw [lt' _ (by omega)] at h7; exact h7)⟩
        · rw [lt' _ (by omega)] at h
          rw [ohter _ _ _ _ k4 k6 (by omega)] at hb1
          obtain ⟨q1, q2⟩ := pB h b hb1
          exact ⟨q1, fun h7 => q2 (by rw [lt' _ (by omega)] at h7; exact h7)⟩
      · have nS : L (k + 7) = false := fls _ fun h => no _ (done _ _ e75 h)
        have hd : o.dst = some dA := by rw [hdi] at k5; exact Option.some.inj k5
        refine Oper.wpIn_mono ?_ (la o act u ho)
        rintro act' u' ⟨rfl, hz, hb, hlt⟩
        refine ⟨by rw [size_put]; exact hI.size, by rw [defers_put]; exact hI.defers, frame' dA _ hd, shut', hI.bl.trans hb, fun h j t' hj hL hdj => ?_, fun _ => ⟨u.heap.size, same _ _ k5, hI.bl.size, hlt, fun _ => hz⟩, fun h => ?_, fun h => ?_⟩
        · rw [lt' _ (by omega)] at h
          rw [lt' _ (by omega)] at hL
          rw [ohter _ _ _ _ k5 hdj (by omega)]
          exact mono j _ u u' hb (hI.pre h j t' hj hL hdj)
        · rw [lt' _ (by omega)] at h
          obtain ⟨b, h1, h2, h3, h4⟩ := hI.B h
          refine ⟨b, by rw [ohter _ _ _ _ k5 k6 (by omega)]; exact h1, h2, Nat.lt_of_lt_of_le h3 hb.size, fun h5 => ?_⟩
          rw [lt' _ (by omega)] at h5
          exact ok.zb_heap u u' b (h4 h5) h3 (Below.block hb b h3) hb.size
        · rw [lt' _ (by omega)] at h
          obtain ⟨D, p0, pd, p1, p2, p3, p4, p9, pA, pB⟩ := hI.post h
          refine ⟨D, by rw [ohter _ _ _ _ k5 k0 (by omega)]; exact p0, ok.dat_bl D u u' pd hb, fun h => ?_, fun h => ?_, fun h => ?_, fun h => ?_, fun h => ?_, fun h b hb1 => ?_, fun h b hb1 => ?_⟩
          · rw [lt' _ (by omega)] at h; rw [ohter _ _ _ _ k5 k1 (by omega)]; exact p1 h
          · rw [lt' _ (by omega)] at h; rw [ohter _ _ _ _ k5 k2 (by omega)]; exact p2 h
          · rw [lt' _ (by omega)] at h; rw [ohter _ _ _ _ k5 k3 (by omega)]; exact p3 h
          · rw [lt' _ (by omega)] at h; rw [ohter _ _ _ _ k5 k4 (by omega)]; exact p4 h
          · rw [lt' _ (by omega)] at h; rw [ohter _ _ _ _ k5 k9 (by omega)]; exact p9 h
          · rw [same _ _ k5] at hb1
            cases hb1
            exact ⟨ok.dat_off D u _ pd (Nat.le_refl _), fun h7 => by rw [lt' _ (by omega), nS] at h7; cases h7⟩
          · rw [lt' _ (by omega)] at h
            rw [ohter _ _ _ _ k5 k6 (by omega)] at hb1
            obtain ⟨q1, q2⟩ := pB h b hb1
            obtain ⟨b', h1, h2, h3, h4⟩ := hI.B h
            rw [h1] at hb1
            cases hb1
            exact ⟨q1, fun h7 => ok.sb_heap D u u' b (q2 (by rw [lt' _ (by omega)] at h7; exact h7)) h3 (Below.block hb b h3) hb.size⟩
      · have nS : L (k + 8) = false := fls _ fun h => no _ (done _ _ e86 h)
        have hd : o.dst = some dB := by rw [hdi] at k6; exact Option.some.inj k6
        refine Oper.wpIn_mono ?_ (lb o act u ho)
        rintro act' u' ⟨rfl, hz, hb, hlt⟩
        refine ⟨by rw [size_put]; exact hI.size, by rw [defers_put]; exact hI.defers, frame' dB _ hd, shut', hI.bl.trans hb, fun h j t' hj hL hdj => ?_, fun h => ?_, fun _ => ⟨u.heap.size, same _ _ k6, hI.bl.size, hlt, fun _ => hz⟩, fun h => ?_⟩
        · rw [lt' _ (by omega)] at h
          rw [lt' _ (by omega)] at hL
          rw [ohter _ _ _ _ k6 hdj (by omega)]
          exact mono j _ u u' hb (hI.pre h j t' hj hL hdj)
        · rw [lt' _ (by omega)] at h
          obtain ⟨b, h1, h2, h3, h4⟩ := hI.A h
          refine ⟨b, by rw [ohter _ _ _ _ k6 k5 (by omega)]; exact h1, h2, Nat.lt_of_lt_of_le h3 hb.size, fun h5 => ?_⟩
          rw [lt' _ (by omega)] at h5
          exact ok.za_heap u u' b (h4 h5) h3 (Below.block hb b h3) hb.size
        · rw [lt' _ (by omega)] at h
          obtain ⟨D, p0, pd, p1, p2, p3, p4, p9, pA, pB⟩ := hI.post h
          refine ⟨D, by rw [ohter _ _ _ _ k6 k0 (by omega)]; exact p0, ok.dat_bl D u u' pd hb, fun h => ?_, fun h => ?_, fun h => ?_, fun h => ?_, fun h => ?_, fun h b hb1 => ?_, fun h b hb1 => ?_⟩
          · rw [lt' _ (by omega)] at h; rw [ohter _ _ _ _ k6 k1 (by omega)]; exact p1 h
          · rw [lt' _ (by omega)] at h; rw [ohter _ _ _ _ k6 k2 (by omega)]; exact p2 h
          · rw [lt' _ (by omega)] at h; rw [ohter _ _ _ _ k6 k3 (by omega)]; exact p3 h
          · rw [lt' _ (by omega)] at h; rw [ohter _ _ _ _ k6 k4 (by omega)]; exact p4 h
          · rw [lt' _ (by omega)] at h; rw [ohter _ _ _ _ k6 k9 (by omega)]; exact p9 h
          · rw [lt' _ (by omega)] at h
            rw [ohter _ _ _ _ k6 k5 (by omega)] at hb1
            obtain ⟨q1, q2⟩ := pA h b hb1
            obtain ⟨b', h1, h2, h3, h4⟩ := hI.A h
            rw [h1] at hb1
            cases hb1
            exact ⟨q1, fun h7 => ok.sa_heap D u u' b (q2 (by rw [lt' _ (by omega)] at h7; exact h7)) h3 (Below.block hb b h3) hb.size⟩
          · rw [same _ _ k6] at hb1
            cases hb1
            exact ⟨ok.dat_off D u _ pd (Nat.le_refl _), fun h7 => by rw [lt' _ (by omega), nS] at h7; cases h7⟩
      · -- the first store
        have hLk : L k = true := to21 (waits _ e72)
        have h5 : L (k + 5) = true := waits _ e75
        have n8 : L (k + 8) = false := fls _ fun h => no _ (done _ _ e87 h)
        obtain ⟨D, p0, pd, p1, p2, p3, p4, p9, pA, pB⟩ := hI.post hLk
        obtain ⟨b, h1, h2, h3, h4⟩ := hI.A h5
        have hoff := (pA h5 b h1).1
        have hz := h4 hLi
        refine Oper.wpIn_mono ?_ (sa o act u D b ho h1 (p2 (waits _ e72)) hz pd hoff hI.bl h2)
        rintro act' u' ⟨rfl, hs, hdat, hbl, hne, hsz'⟩
        refine ⟨hI.size, hI.defers, frame0, shut', hbl, fun h => (by rw [lt' _ (by omega), hLk] at h; cases h), fun _ => ⟨b, h1, h2, Nat.lt_of_lt_of_le h3 hsz', fun h => by rw [ii] at h; cases h⟩, fun h => ?_, fun _ => ⟨D, p0, hdat, fun h => p1 (by rw [lt' _ (by omega)] at h; exact h), fun h => p2 (by rw [lt' _ (by omega)] at h; exact h), fun h => p3 (by rw [lt' _ (by omega)] at h; exact h), fun h => p4 (by rw [lt' _ (by omega)] at h; exact h), fun h => p9 (by rw [lt' _ (by omega)] at h; exact h), fun h b' hb' => ?_, fun h b' hb' => ?_⟩⟩
        · rw [lt' _ (by omega)] at h
          obtain ⟨b2, g1, g2, g3, g4⟩ := hI.B h
          exact ⟨b2, g1, g2, Nat.lt_of_lt_of_le g3 hsz', fun _ => ok.zb_heap u u' b2 (g4 n8) g3 (hne b2 (fun e => ok.ne0 u b hz (by rw [← e]; exact g4 n8))) hsz'⟩
        · rw [h1] at hb'
          cases hb'
          exact ⟨hoff, fun _ => hs⟩
        · rw [lt' _ (by omega)] at h
          exact ⟨(pB h b' hb').1, fun h8 => by rw [lt' _ (by omega), n8] at h8; cases h8⟩
      · -- the second store
        have hLk : L k = true := to31 (waits _ e83)
        have h6 : L (k + 6) = true := waits _ e86
        have h7 : L (k + 7) = true := waits _ e87
        have h5 : L (k + 5) = true := done _ _ e75 h7
        obtain ⟨D, p0, pd, p1, p2, p3, p4, p9, pA, pB⟩ := hI.post hLk
        obtain ⟨b, h1, h2, h3, h4⟩ := hI.B h6
        obtain ⟨b1, g1, g2, g3, g4⟩ := hI.A h5
        have hoff := (pB h6 b h1).1
        have hz := h4 hLi
        obtain ⟨hoff1, hsa⟩ := pA h5 b1 g1
        refine Oper.wpIn_mono ?_ (sb o act u D b ho h1 (p3 (waits _ e83)) hz pd hoff hI.bl h2)
        rintro act' u' ⟨rfl, hs, hdat, hbl, hne, hsz'⟩
        have hb1 : b1 ≠ b := fun e => ok.ne2 D u b (by rw [← e]; exact hsa h7) hz
        refine ⟨hI.size, hI.defers, frame0, shut', hbl, fun h => (by rw [lt' _ (by omega), hLk] at h; cases h), fun _ => ⟨b1, g1, g2, Nat.lt_of_lt_of_le g3 hsz', fun h => by rw [lt' _ (by omega), h7] at h; cases h⟩, fun _ => ⟨b, h1, h2, Nat.lt_of_lt_of_le h3 hsz', fun h => by rw [ii] at h; cases h⟩, fun _ => ⟨D, p0, hdat, fun h => p1 (by rw [lt' _ (by omega)] at h; exact h), fun h => p2 (by rw [lt' _ (by omega)] at h; exact h), fun h => p3 (by rw [lt' _ (by omega)] at h; exact h), fun h => p4 (by rw [lt' _ (by omega)] at h; exact h), fun h => p9 (by rw [lt' _ (by omega)] at h; exact h), fun h b' hb' => ?_, fun h b' hb' => ?_⟩⟩
        · rw [g1] at hb'
          cases hb'
          exact ⟨hoff1, fun _ => ok.sa_heap D u u' b1 (hsa h7) g3 (hne b1 hb1) hsz'⟩
        · rw [h1] at hb'
          cases hb'
          exact ⟨hoff, fun _ => hs⟩
      · have hLk : L k = true := to41 (waits _ e94)
        obtain ⟨D, p0, pd, p1, p2, p3, p4, p9, pA, pB⟩ := hI.post hLk
        have hx := p4 (waits _ e94)
        have hd : o.dst = some dC := by rw [hdi] at k9; exact Option.some.inj k9
        refine Oper.wpIn_mono ?_ (asg o act u _ ho hx)
        rintro act' u' ⟨rfl, rfl⟩
        refine ⟨by rw [size_put]; exact hI.size, by rw [defers_put]; exact hI.defers, frame' dC _ hd, shut', hI.bl, fun h => (by rw [lt' _ (by omega), hLk] at h; cases h), fun h => ?_, fun h => ?_, fun _ => ⟨D, by rw [ohter _ _ _ _ k9 k0 (by omega)]; exact p0, pd, fun h => ?_, fun h => ?_, fun h => ?_, fun h => ?_, fun h => ?_, fun h b hb1 => ?_, fun h b hb1 => ?_⟩⟩
        · rw [lt' _ (by omega)] at h
          obtain ⟨b, h1, h2, h3, h4⟩ := hI.A h
          exact ⟨b, by rw [ohter _ _ _ _ k9 k5 (by omega)]; exact h1, h2, h3, fun h5 => h4 (by rw [lt' _ (by omega)] at h5; exact h5)⟩
        · rw [lt' _ (by omega)] at h
          obtain ⟨b, h1, h2, h3, h4⟩ := hI.B h
          exact ⟨b, by rw [ohter _ _ _ _ k9 k6 (by omega)]; exact h1, h2, h3, fun h5 => h4 (by rw [lt' _ (by omega)] at h5; exact h5)⟩
        · rw [lt' _ (by omega)] at h
          rw [ohter _ _ _ _ k9 k1 (by omega)]
          exact p1 h
        · rw [lt' _ (by omega)] at h
          rw [ohter _ _ _ _ k9 k2 (by omega)]
          exact p2 h
        · rw [lt' _ (by omega)] at h
          rw [ohter _ _ _ _ k9 k3 (by omega)]
          exact p3 h
        · rw [lt' _ (by omega)] at h
          rw [ohter _ _ _ _ k9 k4 (by omega)]
          exact p4 h
        · exact same _ _ k9
        · rw [lt' _ (by omega)] at h
          rw [ohter _ _ _ _ k9 k5 (by omega)] at hb1
          obtain ⟨q1, q2⟩ := pA h b hb1
          exact ⟨q1, fun h7 => q2 (by rw [lt' _ (by omega)] at h7; exact h7)⟩
        · rw [lt' _ (by omega)] at h
          rw [ohter _ _ _ _ k9 k6 (by omega)] at hb1
          obtain ⟨q1, q2⟩ := pB h b hb1
          exact ⟨q1, fun h7 => q2 (by rw [lt' _ (by omega)] at h7; exact h7)⟩
  · intro L act u hI hall
    have hL : ∀ j, j < k + 10 → L j = true := fun j h => hall j (by omega)
    have e : act = putL ds (fun j => act.eval (.tmp ((ds[j]?.getD none).getD 0))) 0 a := by
      refine act_ext (by rw [putL_size]; exact hI.size) (by rw [putL_defers]; exact hI.defers) fun t ht => ?_
      by_cases hm' : some t ∈ ds
      · obtain ⟨j, hj⟩ := List.getElem?_of_mem hm'
        rw [putL_at ds _ t j 0 a honce hj (by rw [← hI.size]; exact ht), Nat.zero_add, hj]
        rfl
      · rw [putL_other ds _ t 0 a (fun d hd e => hm' (by rw [← e]; exact hd))]
        exact hI.frame t (fun j _ e => hm' (List.mem_of_getElem? e))
    obtain ⟨D, p0, pd, p1, p2, p3, p4, p9, pA, pB⟩ := hI.post (hL k (by omega))
    obtain ⟨b1, h1, h2, h3, _⟩ := hI.A (hL _ (by omega))
    obtain ⟨b2, g1, g2, g3, _⟩ := hI.B (hL _ (by omega))
    rw [e]
    exact fin _ u D b1 b2 hI.bl (by simp only [k9]; exact p9 (hL _ (by omega))) (by simp only [k5]; exact h1) (by simp only [k6]; exact g1) h2 g2 ((pA (hL _ (by omega)) b1 h1).2 (hL _ (by omega))) ((pB (hL _ (by omega)) b2 g1).2 (hL _ (by omega))) pd
end Go.Proofs.YtljmggemdkfbiaaGreat

/- What the laws of layer 9 use, of fractions. Written by genJo.py. -/
namespace Go.Proofs.YtljmggemdkfbiaaGreat
open Go.RowKit
set_option linter.unusedSimpArgs false
set_option linter.unusedVariables false

theorem but4F (u : World) (b : Nat) (v0 v1 v2 v3 : Value) : But (fun i => i = b) u ((((u.setCell ⟨b, 0, none⟩ v0).setCell ⟨b, 1, none⟩ v1).setCell ⟨b, 2, none⟩ v2).setCell ⟨b, 3, none⟩ v3) := (((but_cell1 (S := fun i => i = b) rfl _ _ _).trans (but_cell1 (S := fun i => i = b) rfl _ _ _)).trans (but_cell1 (S := fun i => i = b) rfl _ _ _)).trans (but_cell1 (S := fun i => i = b) rfl _ _ _)
theorem heap4F {g l : Nat} (u : World) (h : l ≠ g) (v0 v1 v2 v3 : Value) : ((((u.setCell ⟨g, 0, none⟩ v0).setCell ⟨g, 1, none⟩ v1).setCell ⟨g, 2, none⟩ v2).setCell ⟨g, 3, none⟩ v3).heap[l]? = u.heap[l]? := by
  rw [heap1 _ h, heap1 _ h, heap1 _ h, heap1 _ h]
theorem noB_newSF (u : World) (t : TypeId) : NoB (u.alloc (.cells #[.slice none 0 0, .int .i64 0, .int .i64 0, .slice none 0 0] t)) u.heap.size := by
  intro o x
  rcases o with _ | _ | _ | _ | o <;> simp [go_sem]
theorem mx_ltF {u : World} {R C : Nat} {p : Option Addr} {n cap : Nat} {f : Nat → Nat → Fr} (h : Mx 3 cellsF u R C p n cap f) : ∀ g, (Value.slice p n cap).ownBlock = some g → g < u.heap.size := by
  obtain ⟨b', o, rfl, _, hlt, hcell⟩ := h.cells
  intro g hg
  cases hg
  exact hlt
theorem noB_rwF {u : World} {p : Option Addr} {n cap b : Nat} {x : Nat → Fr} (h : Rw 3 cellsF u (.slice p n cap) (linJ n x)) (h1 : 1 ≤ n) (nb : NoB u b) : ∀ g, (Value.slice p n cap).ownBlock = some g → g ≠ b := by
  rcases h with ⟨_, e⟩ | ⟨g, o, c, e, _, hlt, hx⟩
  · have := congrArg List.length e
    rw [linJ_len] at this
    simp at this
    omega
  · rintro g' hg rfl
    obtain ⟨j, y, hj⟩ := boolF (x 0)
    have := hx 0 _ (linJ_get x h1) j _ hj
    simp only [Value.slice.injEq] at e
    obtain ⟨rfl, _⟩ := e
    cases hg
    exact nb _ _ this
theorem whole_linF (p : Option Addr) (n cap : Nat) (h : Nat → Int) (w : World) (hr : Rq 1 cI w (.slice p n cap) (linJ n h)) (hl : n ≤ 1000000) :
    Calls Tryz.prog 16 #[.slice p n cap] w fun e w' => ∃ q c, e = .returned (.slice q n c) ∧ Rw 3 cellsF w' (.slice q n c) (linJ n fun i => wholeF (h i)) ∧ Bl w w' :=
  (vWholeF _ _ w hr (by rw [linJ_len]; exact hl)).mono fun e w' ⟨u, he, hr, hb⟩ => by
    rw [linJ_map] at hr
    obtain ⟨q, c, rfl, _, _⟩ := hr.cut
    rw [linJ_len] at hr he
    exact ⟨q, c, he, hr, hb⟩
/-- What an update tells, and where it is stored. -/
def updF (n N : Nat) (x : Nat → Fr) (P : Nat → Nat → Fr) (e a : Fr) : Upd (Option Addr × Nat × Option Addr × Nat) where
  v0 D := sJ D.1 n D.2.1 n n D.2.2.1 N D.2.2.2
  v1 _ := newsVF e a
  v2 _ := .bool true
  dat D u := Rw 3 cellsF u (.slice D.1 n D.2.1) (linJ n x) ∧ Mx 3 cellsF u n n D.2.2.1 N D.2.2.2 P
  off D b := (∀ g, (Value.slice D.1 n D.2.1).ownBlock = some g → g ≠ b) ∧ ∀ g, (Value.slice D.2.2.1 N D.2.2.2).ownBlock = some g → g ≠ b
  za u b := SBox u b none 0 0 0 0 none 0 0
  zb u b := NBoxF u b zeroR zeroR
  sa D u b := SBox u b D.1 n D.2.1 n n D.2.2.1 N D.2.2.2
  sb _ u b := NBoxF u b e a
theorem s_not_nF {u : World} {b : Nat} {px : Option Addr} {nx cx : Nat} {r c : Int} {p : Option Addr} {m cap : Nat} {x y : Fr} (h : SBox u b px nx cx r c p m cap) (k : NBoxF u b x y) : False := by
  have := h.c0.symm.trans k.c0
  simp at this
theorem updF_ok (n N : Nat) (x : Nat → Fr) (P : Nat → Nat → Fr) (e a : Fr) : UpdOk (updF n N x P e a) where
  dat_bl D u u' h k := ⟨h.1.later k, Mx.later h.2 k⟩
  dat_off D u b h hb := ⟨fun g hg => by have := h.1.lt g hg; omega, fun g hg => by have := mx_ltF h.2 g hg; omega⟩
  za_heap u u' b h _ e hs := SBox.heap h e hs
  zb_heap u u' b h _ e hs := NBoxF.heap h e hs
  sa_heap D u u' b h _ e hs := SBox.heap h e hs
  sb_heap D u u' b h _ e hs := NBoxF.heap h e hs
  ne0 u b h k := s_not_nF h k
  ne1 D u b h k := s_not_nF h k
  ne2 D u b h k := s_not_nF h k
theorem butNF (u : World) (b : Nat) (x y : Fr) : But (fun i => i = b) u ((((((u.setCell ⟨b, 0, none⟩ (.int .i64 x.n)).setCell ⟨b, 1, none⟩ (.int .i64 x.d)).setCell ⟨b, 2, none⟩ (.bool x.bad)).setCell ⟨b, 3, none⟩ (.int .i64 y.n)).setCell ⟨b, 4, none⟩ (.int .i64 y.d)).setCell ⟨b, 5, none⟩ (.bool y.bad)) := (((((but_cell1 (S := fun i => i = b) rfl _ _ _).trans (but_cell1 (S := fun i => i = b) rfl _ _ _)).trans (but_cell1 (S := fun i => i = b) rfl _ _ _)).trans (but_cell1 (S := fun i => i = b) rfl _ _ _)).trans (but_cell1 (S := fun i => i = b) rfl _ _ _)).trans (but_cell1 (S := fun i => i = b) rfl _ _ _)
theorem heapNF {l b : Nat} (u : World) (h : l ≠ b) (x y : Fr) : ((((((u.setCell ⟨b, 0, none⟩ (.int .i64 x.n)).setCell ⟨b, 1, none⟩ (.int .i64 x.d)).setCell ⟨b, 2, none⟩ (.bool x.bad)).setCell ⟨b, 3, none⟩ (.int .i64 y.n)).setCell ⟨b, 4, none⟩ (.int .i64 y.d)).setCell ⟨b, 5, none⟩ (.bool y.bad)).heap[l]? = u.heap[l]? := by
  rw [heap1 _ h, heap1 _ h, heap1 _ h, heap1 _ h, heap1 _ h, heap1 _ h]
theorem blNF {w u : World} (b : Nat) (h : Bl w u) (hb : w.heap.size ≤ b) (x y : Fr) : Bl w ((((((u.setCell ⟨b, 0, none⟩ (.int .i64 x.n)).setCell ⟨b, 1, none⟩ (.int .i64 x.d)).setCell ⟨b, 2, none⟩ (.bool x.bad)).setCell ⟨b, 3, none⟩ (.int .i64 y.n)).setCell ⟨b, 4, none⟩ (.int .i64 y.d)).setCell ⟨b, 5, none⟩ (.bool y.bad)) := Bl.set (Bl.set (Bl.set (Bl.set (Bl.set (Bl.set (h) hb _) hb _) hb _) hb _) hb _) hb _
end Go.Proofs.YtljmggemdkfbiaaGreat

/- mat's Mul of what does not go together, of fractions (layer 6). Written by genMa.py. -/
namespace Go.Proofs.YtljmggemdkfbiaaGreat
open Go.RowKit
set_option linter.unusedSimpArgs false
set_option linter.unusedVariables false

end Go.Proofs.YtljmggemdkfbiaaGreat

/- Contracts of layer 6's Same, Alike. -/
namespace Go.Proofs.YtljmggemdkfbiaaGreat
open Go.RowKit
set_option linter.unusedSimpArgs false
set_option linter.unusedVariables false

theorem neq_selfV (r : Fr) (w : World) : (binOp .neq 34 (frV r) (frV r)).run Tryz.prog w = .ok (.bool false) w := by
  rw [neq_fr, eqR_self]; rfl
set_option maxHeartbeats 1000000 in
theorem same6_any (r c : Int) (p : Option Addr) (n cap : Nat) (q : Option Addr) (cap2 : Nat) (ns : List Int) (w : World) (h : Rq 3 cellsF w (.slice p n cap) (ns.map itF)) (h2 : Rq 1 cI w (.slice q n cap2) ns) (hn : ns.length = n) (hs : ∀ x ∈ ns, Wh x) (hl : n ≤ 1000) :
    Calls Tryz.prog 31 #[mV r c p n cap, .int .i64 r, .int .i64 c, .slice q n cap2] w fun e w' => e = .returned (.bool true) ∧ Bl w w' := by
  have b0 : Bl w (w.alloc (.cells #[.int .i64 r, .int .i64 c, .slice p n cap] 30)) := (Bl.refl _).alloc _
  have EG := Tryz.frGuard
  have CA : ∀ k x, ns[k]? = some x → ∃ b o, p = some ⟨b, o, none⟩ ∧ ∀ u, Bl w u → u.cell? ⟨b, o + k * 3, none⟩ = some (.int .i64 x) ∧ u.cell? ⟨b, o + k * 3 + 1, none⟩ = some (.int .i64 1) ∧ u.cell? ⟨b, o + k * 3 + 2, none⟩ = some (.bool false) := by
    intro k x hk
    rcases h with ⟨_, _, _, h0, _⟩ | ⟨b, o, cc, e, _, hlt, HX⟩
    · have : ns = [] := by simpa using h0
      rw [this] at hk; simp at hk
    · cases e
      refine ⟨b, o, rfl, fun u hu => ?_⟩
      have hk' : (ns.map itF)[k]? = some (itF x) := by rw [List.getElem?_map, hk]; rfl
      exact ⟨(bl_cell hu _ _ hlt).trans (HX k _ hk' 0 _ rfl), (bl_cell hu _ _ hlt).trans (HX k _ hk' 1 _ rfl), (bl_cell hu _ _ hlt).trans (HX k _ hk' 2 _ rfl)⟩
  have CB : ∀ k x, ns[k]? = some x → ∃ b o, q = some ⟨b, o, none⟩ ∧ ∀ u, Bl w u → u.cell? ⟨b, o + k, none⟩ = some (.int .i64 x) := by
    intro k x hk
    rcases h2 with ⟨_, _, _, h0, _⟩ | ⟨b, o, cc, e, _, hlt, HX⟩
    · rw [h0] at hk; simp at hk
    · cases e
      exact ⟨b, o, rfl, fun u hu => (bl_cell hu _ _ hlt).trans (cellI HX hk (wr := w))⟩
  have HA := hideP CA
  have HB := hideP CB
  have HS := hideP hs
  have HN := hideP hn
  clear CA CB hs h h2 hn
  go_enter Tryz.func31, Tryz.ntmps31
  go_wp2_with fail
  go_loopw [32] (fun i wr => ∃ k : Nat, i = .int .i64 k ∧ k ≤ n ∧ Bl w wr) (fun i _ => n - (intOf i).toNat)
  case atStart => exact ⟨0, rfl, Nat.zero_le _, b0⟩
  case round =>
    obtain ⟨k, rfl, hk, bl⟩ := hrel
    by_cases hlt : k < n
    · obtain ⟨x, hx⟩ : ∃ x, ns[k]? = some x := ⟨_, List.getElem?_eq_getElem (by have := HN.out; omega)⟩
      obtain ⟨b, o, rfl, CX⟩ := HA.out k x hx
      obtain ⟨b', o', rfl, CY⟩ := HB.out k x hx
      obtain ⟨c0, c1, c2⟩ := CX wr bl
      have hw : Wh x := HS.out x (List.mem_of_getElem? hx)
      go_wp2_with fail
      obtain ⟨V, hV⟩ : ∃ V, V = wr.alloc (.cells #[.int .i64 x, .int .i64 1, .bool false] 34) := ⟨_, rfl⟩
      have bV : Bl w V := by rw [hV]; exact bl.alloc _
      have BX : FBox V wr.heap.size (itF x) := by rw [hV]; exact FBox.new wr (itF x) _
      have z0 := fun z : Wl V => (BX.later z.bl).c0
      have z1 := fun z : Wl V => (BX.later z.bl).c1
      have z2 := fun z : Wl V => (BX.later z.bl).c2
      have z3 := fun z : Wl V => CY z.w (bV.trans z.bl)
      have wne := wl_ne V
      have NW := hideP (fun z : Wl V => new_few (n := x) hw z.w)
      have ne1 := neq_selfV (itF x)
      rw [← hV]
      generalize hr : itF x = rr at *
      clear hr c0 c1 c2 CX CY BX hV
      refine wl_region V (Bl.refl _) (by kernel_rfl) (by kernel_rfl) ?_
      repeat (go_big_quiet_step (first | (go_at_call 17; exact wl_call (NW.out _))))
      refine wpQuiet_nil ?_
      intro _ hw'
      obtain ⟨z, hw''⟩ := hw'
      subst hw''
      clear wne z0 z1 z2 z3 ne1
      obtain ⟨w3, h3⟩ := z
      dsimp only
      go_wp2
      go_roundw
      case rel => exact ⟨k + 1, by simp, hlt, bV.trans h3⟩
      case measure => simp [intOf]; omega
    · obtain rfl : k = n := by omega
      go_wp2
      go_ret
      exact ⟨rfl, bl⟩
end Go.Proofs.YtljmggemdkfbiaaGreat

/- Contract of layer 6's Alike. -/
namespace Go.Proofs.YtljmggemdkfbiaaGreat
open Go.RowKit
set_option linter.unusedSimpArgs false
set_option linter.unusedVariables false

end Go.Proofs.YtljmggemdkfbiaaGreat

/- Matrices of whole numbers, as fractions: contracts in the words of layer 6's laws; awake. -/
namespace Go.Proofs.YtljmggemdkfbiaaGreat
open Go.RowKit
set_option linter.unusedSimpArgs false
set_option linter.unusedVariables false

/-- All numbers of a matrix are so small. -/
def Sm2 (A : Int) (R C : Nat) (g : Nat → Nat → Int) : Prop := ∀ i k, i < R → k < C → -A ≤ g i k ∧ g i k ≤ A
/-- A matrix of whole numbers, as fractions. -/
abbrev MxI (w : World) (R C : Nat) (p : Option Addr) (n cap : Nat) (g : Nat → Nat → Int) : Prop := Mx 3 cellsF w R C p n cap (fun i k => itF (g i k))
theorem rowI_it (C : Nat) (g : Nat → Nat → Int) (i : Nat) : rowM C (fun i k => itF (g i k)) i = (rowM C g i).map itF := by simp [rowM]
theorem colI_it (R : Nat) (g : Nat → Nat → Int) (k : Nat) : colM R (fun i k => itF (g i k)) k = (colM R g k).map itF := by simp [colM]
theorem row_sml {A : Int} {R C : Nat} {g : Nat → Nat → Int} (h : Sm2 A R C g) {i : Nat} (hi : i < R) : Sml A (rowM C g i) := by
  intro x hx
  obtain ⟨k, hk, rfl⟩ := List.mem_map.1 hx
  exact h i k hi (by simpa using hk)
theorem col_sml {A : Int} {R C : Nat} {g : Nat → Nat → Int} (h : Sm2 A R C g) {k : Nat} (hk : k < C) : Sml A (colM R g k) := by
  intro x hx
  obtain ⟨i, hi, rfl⟩ := List.mem_map.1 hx
  exact h i k (by simpa using hi) hk
theorem mk_sml {A : Int} {R C : Nat} {g : Nat → Nat → Int} (h : Sm2 A R C g) : Sml A (mk R C g) := by
  intro x hx
  obtain ⟨i, hi, hx⟩ := List.mem_flatMap.1 hx
  exact row_sml h (by simpa using hi) x hx
/-- The dot of whole numbers that are small enough. -/
theorem dot_it6 {A B : Int} {xs ys : List Int} (h : Sml A xs) (k : Sml B ys) (hA : 0 ≤ A ∧ A ≤ 1073741824) (hB : 0 ≤ B ∧ B ≤ 1073741824) (hl : xs.length ≤ 16) (hAB : A * B ≤ 67108864) : dotF (xs.map itF) (ys.map itF) = itF (dotI xs ys) := by
  unfold dotF dotI
  have hp : 0 ≤ A * B := Int.mul_nonneg hA.1 hB.1
  rw [muls_it (by omega) (by omega) (by omega) xs ys h k]
  refine sum_it (B := A * B) _ (muls_sml h k) hp ?_
  have hln : (List.zipWith (· * ·) xs ys).length ≤ 16 := by simp; omega
  have := Int.mul_le_mul_of_nonneg_left (show ((List.zipWith (· * ·) xs ys).length : Int) ≤ 16 by omega) hp
  omega
theorem mulM_it {A B : Int} {R M D : Nat} {a b : Nat → Nat → Int} (ha : Sm2 A R M a) (hb : Sm2 B M D b) (hM : M ≤ 16) (hA : 0 ≤ A ∧ A ≤ 1073741824) (hB : 0 ≤ B ∧ B ≤ 1073741824) (hAB : A * B ≤ 67108864) {i k : Nat} (hi : i < R) (hk : k < D) :
    mulMF M (fun i k => itF (a i k)) (fun i k => itF (b i k)) i k = itF (mulI M a b i k) := by
  unfold mulMF mulI
  rw [rowI_it, colI_it]
  exact dot_it6 (row_sml ha hi) (col_sml hb hk) hA hB (by rw [rowM_len]; exact hM) hAB
theorem Mx.congr {α : Type} {s : Nat} {c : α → List Value} {w : World} {R C : Nat} {p : Option Addr} {n cap : Nat} {f g : Nat → Nat → α} (h : Mx s c w R C p n cap f) (e : ∀ i k, i < R → k < C → f i k = g i k) : Mx s c w R C p n cap g :=
  ⟨h.1, h.2.1, by rw [← mk_congr e]; exact h.2.2⟩
/-- Whole, of numbers that go together. -/
theorem whole6_any (r c : Int) (p : Option Addr) (n cap : Nat) (ns : List Int) (w : World) (hr : Rq 1 cI w (.slice p n cap) ns) (h : fitB r c n = true) (hn : ns.length = n) (hs : Sml 100 ns) :
    ∃ R C : Nat, r = R ∧ c = C ∧ Dim R C ∧ n = R * C ∧ Sm2 100 R C (ofL C ns) ∧ Calls Tryz.prog 12 #[.int .i64 r, .int .i64 c, .slice p n cap] w fun e w' => ∃ p' cap', e = .returned (.tuple #[mV R C p' n cap', .bool true]) ∧ MxI w' R C p' n cap' (ofL C ns) ∧ Bl w w' := by
  obtain ⟨R, C, rfl, rfl, hd, hn'⟩ := fitB_nat h
  refine ⟨R, C, rfl, rfl, hd, hn', ofL_sml (by omega) hs, ?_⟩
  refine (mWholeF R C p n cap ns w hr h hn).mono ?_
  rintro e w' ⟨p', cap', rfl, hR, hb⟩
  refine ⟨p', cap', rfl, ⟨hd, hn', ?_⟩, hb⟩
  have e : ns.map wholeF = mk R C (fun i k => itF (ofL C ns i k)) := by
    rw [wholes_it ns hs (by omega), ← mk_map, ← ofL_mk (by omega)]
  rw [← e]
  exact hR.q
theorem whole6_call (R C : Nat) (p : Option Addr) (n cap : Nat) (ns : List Int) (w : World) (hr : Rq 1 cI w (.slice p n cap) ns) (h : fitB R C n = true) (hn : ns.length = n) (hs : Sml 100 ns) :
    Calls Tryz.prog 12 #[.int .i64 R, .int .i64 C, .slice p n cap] w fun e w' => ∃ p' cap', e = .returned (.tuple #[mV R C p' n cap', .bool true]) ∧ MxI w' R C p' n cap' (ofL C ns) ∧ Bl w w' := by
  obtain ⟨R', C', h1, h2, _, _, _, h3⟩ := whole6_any R C p n cap ns w hr h hn hs
  obtain rfl : R = R' := by omega
  obtain rfl : C = C' := by omega
  exact h3
end Go.Proofs.YtljmggemdkfbiaaGreat

/- awake of layer 9's laws. Written by genJw.py. -/
namespace Go.Proofs.YtljmggemdkfbiaaGreat
open Go.RowKit
set_option linter.unusedSimpArgs false
set_option linter.unusedVariables false

theorem rq_one9 (u : World) (x : Int) (t : TypeId) : Rq 1 cI (u.alloc (.cells #[.int .i64 x] t)) (.slice (some ⟨u.heap.size, 0, none⟩) 1 1) (linJ 1 fun _ => x) := by
  refine .inr ⟨u.heap.size, 0, 1, rfl, Nat.le_refl _, by simp, fun j v hj k s hu => ?_⟩
  rcases j with _ | j
  · simp [linJ] at hj
    subst hj
    rcases k with _ | k
    · simp at hu
      subst hu
      simp [go_sem]
    · simp at hu
  · simp [linJ] at hj
theorem whole11 (w : World) (t : TypeId) (b0 : Nat) (hb0 : b0 = w.heap.size) : Calls Tryz.prog 12 #[.int .i64 1, .int .i64 1, .slice (some ⟨b0, 0, none⟩) 1 1] (w.alloc (.cells #[.int .i64 1] t))
    fun e w' => ∃ p' cap', e = .returned (.tuple #[mV 1 1 p' 1 cap', .bool true]) ∧ Mx 3 cellsF w' 1 1 p' 1 cap' (fun _ _ => itF 1) ∧ Bl (w.alloc (.cells #[.int .i64 1] t)) w' := by
  subst hb0
  refine (mWholeF 1 1 _ 1 1 [1] _ (rq_one9 w 1 t) (by decide) rfl).mono ?_
  rintro e w' ⟨p', cap', rfl, hr, hb⟩
  exact ⟨p', cap', rfl, ⟨⟨by omega, by omega, by omega, by omega⟩, rfl, hr.q⟩, hb⟩
theorem rw_cells9F {w : World} {p : Option Addr} {n cap : Nat} {x : Nat → Fr} (h : Rw 3 cellsF w (.slice p n cap) (linJ n x)) (h1 : 1 ≤ n) : ∃ g o, p = some ⟨g, o, none⟩ ∧ ∀ u, Bl w u → ∀ k, k < n → u.cell? ⟨g, o + k * 3, none⟩ = some (.int .i64 (x k).n) ∧ u.cell? ⟨g, o + k * 3 + 1, none⟩ = some (.int .i64 (x k).d) ∧ u.cell? ⟨g, o + k * 3 + 2, none⟩ = some (.bool (x k).bad) := by
  rcases h with ⟨_, e⟩ | ⟨g, o, c, e, _, hlt, hx⟩
  · have := congrArg List.length e
    rw [linJ_len] at this
    simp at this
    omega
  · simp only [Value.slice.injEq] at e
    refine ⟨g, o, e.1, fun u hu k hk => ?_⟩
    have H := fun i v (hi : (cellsF (x k))[i]? = some v) => (bl_cell hu _ _ hlt).trans (hx k _ (linJ_get x hk) i v hi)
    exact ⟨H 0 _ rfl, H 1 _ rfl, H 2 _ rfl⟩
end Go.Proofs.YtljmggemdkfbiaaGreat

/- Layer 10's words of any kind of numbers: a measurement, column by column from the last one. Mathematics alone. -/
namespace Go.Proofs.YtljmggemdkfbiaaGreat
open Go.RowKit
set_option linter.unusedSimpArgs false
set_option linter.unusedVariables false

/-- What is known between two columns: the triangle, what is gathered, and a. -/
structure StO (α : Type) where
  s : Nat → Nat → α
  e : Nat → α
  a : α
def bO {α : Type} (K : Kd α) (a w : α) : α := K.add a (K.mul w w)
def dO {α : Type} (K : Kd α) (a w : α) : α := K.root (K.div a (bO K a w))
def cO {α : Type} (K : Kd α) (a w : α) : α := K.div w (K.root (K.mul a (bO K a w)))
/-- A number of the column, changed. -/
def sO {α : Type} (K : Kd α) (a w x e : α) : α := K.sub (K.mul x (dO K a w)) (K.mul e (cO K a w))
/-- Column j, changed from its diagonal up to row i. -/
def partS {α : Type} (K : Kd α) (j i : Nat) (w : α) (t : StO α) (r k : Nat) : α := if k = j ∧ j ≤ r ∧ r < i then sO K t.a w (t.s r j) (t.e r) else t.s r k
def partE {α : Type} (K : Kd α) (j i : Nat) (w : α) (t : StO α) (r : Nat) : α := if j ≤ r ∧ r < i then K.add (t.e r) (K.mul (t.s r j) w) else t.e r
def stepO {α : Type} (K : Kd α) (n j : Nat) (w : α) (t : StO α) : StO α := ⟨partS K j n w t, partE K j n w t, bO K t.a w⟩
/-- A column's weight: the column's dot by h. -/
def wO {α : Type} (K : Kd α) (n : Nat) (s : Nat → Nat → α) (h : Nat → α) (j : Nat) : α := appJ K n (fun i k => s k i) h j
/-- The last t columns. -/
def runO {α : Type} (K : Kd α) (n : Nat) (s : Nat → Nat → α) (h : Nat → α) (r : α) : Nat → StO α
  | 0 => ⟨s, fun _ => K.z, r⟩
  | t + 1 => stepO K n (n - 1 - t) (wO K n s h (n - 1 - t)) (runO K n s h r t)
theorem partS_zero {α : Type} (K : Kd α) (j : Nat) (w : α) (t : StO α) : partS K j j w t = t.s := by
  funext r k
  unfold partS
  rw [if_neg (by omega)]
theorem partE_zero {α : Type} (K : Kd α) (j : Nat) (w : α) (t : StO α) : partE K j j w t = t.e := by
  funext r
  unfold partE
  rw [if_neg (by omega)]
theorem partS_next {α : Type} (K : Kd α) {j i : Nat} (hi : j ≤ i) (w : α) (t : StO α) : partS K j (i + 1) w t = putM (partS K j i w t) i j (sO K t.a w (t.s i j) (t.e i)) := by
  funext r k
  unfold putM partS
  by_cases h : r = i ∧ k = j
  · obtain ⟨rfl, rfl⟩ := h
    rw [if_pos ⟨rfl, hi, by omega⟩, if_pos ⟨rfl, rfl⟩]
  · rw [if_neg h]
    by_cases h2 : k = j ∧ j ≤ r ∧ r < i
    · rw [if_pos h2, if_pos ⟨h2.1, h2.2.1, by omega⟩]
    · rw [if_neg h2, if_neg (by omega)]
theorem partE_next {α : Type} (K : Kd α) {j i : Nat} (hi : j ≤ i) (w : α) (t : StO α) (r : Nat) : partE K j (i + 1) w t r = if r = i then K.add (t.e i) (K.mul (t.s i j) w) else partE K j i w t r := by
  unfold partE
  by_cases h : r = i
  · subst h
    rw [if_pos rfl, if_pos ⟨hi, by omega⟩]
  · rw [if_neg h]
    by_cases h2 : j ≤ r ∧ r < i
    · rw [if_pos h2, if_pos ⟨h2.1, by omega⟩]
    · rw [if_neg h2, if_neg (by omega)]
theorem partS_at {α : Type} (K : Kd α) (j i : Nat) (w : α) (t : StO α) : partS K j i w t i j = t.s i j := by
  unfold partS
  rw [if_neg (by omega)]
theorem partE_at {α : Type} (K : Kd α) (j i : Nat) (w : α) (t : StO α) : partE K j i w t i = t.e i := by
  unfold partE
  rw [if_neg (by omega)]
theorem But.put {S : Nat → Prop} {w b c : World} {r : Nat} (h : But S w b) (k : But (fun i => i = r) b c) (hr : w.heap.size ≤ r) : But S w c :=
  have q : But (fun i => S i ∨ i = r) w c := (h.mono fun _ => .inl).trans (k.mono fun _ => .inr)
  ⟨q.os, q.tape, q.output, q.size, fun i hi hs => q.block i hi (by rintro (h | h); exact hs h; omega)⟩
/-- What the columns of a list make of a state. -/
def foldO {α : Type} (K : Kd α) (n : Nat) (t : StO α) (l : List (Nat × α)) : StO α := l.foldl (fun t x => stepO K n x.1 x.2 t) t
theorem foldO_next {α : Type} (K : Kd α) (n : Nat) (t : StO α) (l : List (Nat × α)) (x : Nat × α) : foldO K n t (l ++ [x]) = stepO K n x.1 x.2 (foldO K n t l) := by simp [foldO]
theorem foldO_run {α : Type} (K : Kd α) (n : Nat) (s : Nat → Nat → α) (h : Nat → α) (r : α) : ∀ t, foldO K n ⟨s, fun _ => K.z, r⟩ ((List.range t).map fun i => (n - 1 - i, wO K n s h (n - 1 - i))) = runO K n s h r t := by
  intro t
  induction t with
  | zero => rfl
  | succ t ih => rw [List.range_succ, List.map_append, show List.map (fun i => (n - 1 - i, wO K n s h (n - 1 - i))) [t] = [(n - 1 - t, wO K n s h (n - 1 - t))] from rfl, foldO_next, ih]; rfl
end Go.Proofs.YtljmggemdkfbiaaGreat

/- Contracts of root's fits, Right and Cover, of fractions (layer 10). Written by genRo.py. -/
namespace Go.Proofs.YtljmggemdkfbiaaGreat
open Go.RowKit
set_option linter.unusedSimpArgs false
set_option linter.unusedVariables false

set_option maxHeartbeats 1000000 in
theorem rFitsF (px : Option Addr) (nx cx : Nat) (r c : Int) (p : Option Addr) (n cap : Nat) (w : World) :
    Calls Tryz.prog 64 #[.slice px nx cx, mV r c p n cap] w fun e w' => e = .returned (.bool (fitJ r c n nx)) ∧ Bl w w' := by
  obtain ⟨W, hW⟩ : ∃ W, W = w.alloc (.cells #[.int .i64 r, .int .i64 c, .slice p n cap] 30) := ⟨_, rfl⟩
  have b0 : Bl w W := by rw [hW]; exact (Bl.refl _).alloc _
  have m0 : MBox W w.heap.size r c p n cap := by rw [hW]; exact MBox.new w _ _ _ _ _ _
  have HW := hideP hW
  obtain ⟨c0, c1, c2, f0, f1, f2, lt⟩ := id m0
  rw [hW] at c0 c1 c2
  have SB := fun u : World => (by kernel_rfl : (Instr.build 36 #[(0, .slice px nx cx), (1, mV r c p n cap)]).run Tryz.prog u = .ok (sJ px nx cx r c p n cap) u)
  clear hW
  go_enter Tryz.func64, Tryz.ntmps64
  go_wp2_with fail
  rw [← HW.out]
  refine (jRightF px nx cx r c p n cap W).mono ?_
  rintro e w1 ⟨rfl, h1⟩
  go_wp2
  go_ret
  exact ⟨rfl, b0.trans h1⟩
set_option maxHeartbeats 1000000 in
theorem rRightF (px : Option Addr) (nx cx : Nat) (r c : Int) (p : Option Addr) (n cap : Nat) (w : World) :
    Calls Tryz.prog 30 #[sJ px nx cx r c p n cap] w fun e w' => e = .returned (.bool (fitJ r c n nx)) ∧ Bl w w' := by
  obtain ⟨W, hW⟩ : ∃ W, W = w.alloc (.cells #[.slice px nx cx, .int .i64 r, .int .i64 c, .slice p n cap] 63) := ⟨_, rfl⟩
  have b0 : Bl w W := by rw [hW]; exact (Bl.refl _).alloc _
  have s0 : SBox W w.heap.size px nx cx r c p n cap := by rw [hW]; exact SBox.new w _ _ _ _ _ _ _ _ _
  have HW := hideP hW
  obtain ⟨c0, c1, c2, c3, _, _, _, _, _⟩ := id s0
  rw [hW] at c0 c1 c2 c3
  clear hW
  go_enter Tryz.func30, Tryz.ntmps30
  go_wp2_with fail
  rw [← HW.out]
  refine (rFitsF px nx cx r c p n cap W).mono ?_
  rintro e w1 ⟨rfl, h1⟩
  go_wp2
  go_ret
  exact ⟨rfl, b0.trans h1⟩
set_option maxRecDepth 100000 in
set_option maxHeartbeats 2000000 in
theorem rCoverF (n : Nat) (px : Option Addr) (cx : Nat) (p : Option Addr) (N cap : Nat) (f : Nat → Nat → Fr) (w : World) (h : Mx 3 cellsF w n n p N cap f) (h4 : n ≤ 4) :
    Calls Tryz.prog 28 #[sJ px n cx n n p N cap] w fun e w' => ∃ p' c', e = .returned (mV n n p' N c') ∧ Mx 3 cellsF w' n n p' N c' (squareJ kdF n f) ∧ Bl w w' := by
  have hfit := fitJ_dim h.1 h.2.1 h4
  obtain ⟨W, hW⟩ : ∃ W, W = (w.alloc (.cells #[.slice px n cx, .int .i64 n, .int .i64 n, .slice p N cap] 63)).alloc (.cells #[.int .i64 0, .int .i64 0, .slice none 0 0] 30) := ⟨_, rfl⟩
  have b0 : Bl w W := by rw [hW]; exact ((Bl.refl _).alloc _).alloc _
  have s0 : SBox W w.heap.size px n cx n n p N cap := by rw [hW]; exact (SBox.new w _ _ _ _ _ _ _ _ _).later ((Bl.refl _).alloc _)
  have z0 : MBox W (w.heap.size + 1) 0 0 none 0 0 := by rw [hW]; have := MBox.new (w.alloc (.cells #[.slice px n cx, .int .i64 n, .int .i64 n, .slice p N cap] 63)) 0 0 none 0 0 30; rw [World.size_alloc] at this; exact this
  have hs : W.heap.size = w.heap.size + 1 + 1 := by rw [hW]; simp
  have HM := hideP h
  have HW := hideP hW
  obtain ⟨c0, c1, c2, c3, _, _, _, _, _⟩ := id s0
  rw [hW] at c0 c1 c2 c3
  clear hW h
  go_enter Tryz.func28, Tryz.ntmps28
  go_wp2_with fail
  try simp only [World.size_alloc]
  rw [← HW.out]
  refine (rRightF px n cx n n p N cap W).mono ?_
  rintro e w1 ⟨rfl, h1⟩
  rw [hfit]
  clear c0 c1 c2 c3
  obtain ⟨c0, c1, c2, c3, _, _, _, _, _⟩ := s0.later h1
  go_wp2_with fail
  refine (tSqF n p N cap f w1 (HM.out.later (b0.trans h1))).mono ?_
  rintro e w2 ⟨p2, c2', rfl, ⟨hP, hF⟩, h2⟩
  obtain ⟨d0, d1, d2, g0, g1, g2, _⟩ := z0.later (h1.trans (h2.trans ((Bl.refl _).alloc (.cells #[.int .i64 n, .int .i64 n, .slice p2 N c2'] 30))))
  have k2 := MBox.new w2 n n p2 N c2' 30
  obtain ⟨W2, hW2⟩ : ∃ W2, W2 = w2.alloc (.cells #[.int .i64 n, .int .i64 n, .slice p2 N c2'] 30) := ⟨_, rfl⟩
  have b2 : Bl w2 W2 := by rw [hW2]; exact (Bl.refl _).alloc _
  have B2 : Bl w W2 := (b0.trans h1).trans (h2.trans b2)
  have HP := hideP (Mx.later hP b2)
  have HF := hideP hF
  have hs2 : w1.heap.size ≤ W2.heap.size := (h2.trans b2).size
  have hs1 := h1.size
  obtain ⟨x0, x1, x2, _, _, _, _⟩ := id k2
  have HW2 := hideP hW2
  clear hP hF c0 c1 c2 c3 hW2
  go_wp2
  simp [bodyPost, results, Tryz.results28, go_sem, d0, d1, d2, x0, x1, x2, g0, g1, g2]
  exact ⟨p2, c2', by simp, by rw [← HW2.out]; exact mx_ne7 HP.out (fun b hb => by have := HF.out b hb; omega) _ _ _, by rw [← HW2.out]; exact Bl.put3 B2 (Nat.le_succ _) _ _ _⟩
end Go.Proofs.YtljmggemdkfbiaaGreat

/- Contracts of root's New, of fractions (layer 10). Written by genRo.py. -/
namespace Go.Proofs.YtljmggemdkfbiaaGreat
open Go.RowKit
set_option linter.unusedSimpArgs false
set_option linter.unusedVariables false

theorem Tryz.buildRF (q : Option Addr) (n c : Nat) (r d : Int) (p : Option Addr) (N cap : Nat) (u : World) : (Instr.build 63 #[(0, .slice q n c), (1, mV r d p N cap)]).run Tryz.prog u = .ok (sJ q n c r d p N cap) u := by kernel_rfl
set_option maxRecDepth 100000 in
set_option maxHeartbeats 2000000 in
theorem rNewF (n : Nat) (px : Option Addr) (cx : Nat) (x : Nat → Fr) (p : Option Addr) (N cap : Nat) (f : Nat → Nat → Fr) (w : World) (hx : Rq 3 cellsF w (.slice px n cx) (linJ n x)) (h : Mx 3 cellsF w n n p N cap f) (h4 : n ≤ 4) :
    Calls Tryz.prog 25 #[.slice px n cx, mV n n p N cap] w fun e w' => ∃ q c p' c', e = .returned (.tuple #[sJ q n c n n p' N c', .bool true]) ∧ (Rw 3 cellsF w' (.slice q n c) (linJ n x) ∧ Mx 3 cellsF w' n n p' N c' (clrF f)) ∧ Bl w w' := by
  have fm : Tryz.prog.follows .mixedOrders = true := by kernel_rfl
  have egC := enters_of Tryz.func66 (by kernel_rfl) rfl
  have hfit := fitJ_dim h.1 h.2.1 h4
  obtain ⟨W, hW⟩ : ∃ W, W = (w.alloc (.cells #[.int .i64 n, .int .i64 n, .slice p N cap] 30)).alloc (.cells #[.slice none 0 0, .int .i64 0, .int .i64 0, .slice none 0 0] 63) := ⟨_, rfl⟩
  have b0 : Bl w W := by rw [hW]; exact ((Bl.refl _).alloc _).alloc _
  have m0 : MBox W w.heap.size n n p N cap := by rw [hW]; exact (MBox.new w _ _ _ _ _ _).later ((Bl.refl _).alloc _)
  have s0 : SBox W (w.heap.size + 1) none 0 0 0 0 none 0 0 := by rw [hW]; have := SBox.new (w.alloc (.cells #[.int .i64 n, .int .i64 n, .slice p N cap] 30)) none 0 0 0 0 none 0 0 63; rw [World.size_alloc] at this; exact this
  have hs : W.heap.size = w.heap.size + 1 + 1 := by rw [hW]; simp
  have HX := hideP hx
  have HMX := hideP h
  have HW := hideP hW
  clear hW hx h
  go_enter Tryz.func25, Tryz.ntmps25
  go_wp2_with fail
  rw [← HW.out]
  refine (rFitsF _ _ _ _ _ _ _ _ _).mono ?_
  rintro e w1 ⟨rfl, h1⟩
  rw [hfit]
  obtain ⟨c0, c1, cm, f0, f1, f2, lt⟩ := m0.later h1
  have b01 := b0.trans h1
  go_wp2_with fail
  refine (tClearF n p N cap f w1 (HMX.out.later b01)).mono ?_
  rintro e w2 ⟨p2, c2, rfl, ⟨hP, hF⟩, h2⟩
  have k2 := MBox.new w2 n n p2 N c2 30
  obtain ⟨W2, hW2⟩ : ∃ W2, W2 = w2.alloc (.cells #[.int .i64 n, .int .i64 n, .slice p2 N c2] 30) := ⟨_, rfl⟩
  have b2 : Bl w2 W2 := by rw [hW2]; exact (Bl.refl _).alloc _
  rw [← hW2] at k2
  have HW2 := hideP hW2
  have B2 : Bl w W2 := b01.trans (h2.trans b2)
  have s2 := s0.later (h1.trans (h2.trans b2))
  have hsz : w.heap.size + 1 + 1 ≤ W2.heap.size := by have := (h1.trans (h2.trans b2)).size; omega
  have HP := hideP (show Mx 3 cellsF W2 n n p2 N c2 (clrF f) from Mx.later hP b2)
  have HF := hideP (show Fresh (w.heap.size + 1 + 1) (.slice p2 N c2) from fresh_le hF (by have := h1.size; omega))
  have CL := hideP (fun u (hu : Bl W2 u) => clone_linF px n cx x u (HX.out.later (B2.trans hu)) (by have := h4; omega))
  clear hW2 hP hF c0 c1 cm f0 f1 f2 lt
  go_wp2_with fail
  rw [← HW2.out]
  refine (wpIn_wide (n := 8)).1 (region_q fm [some 18, some 19, some 20, some 21, none, some 5] (fun j => j == 5) 4 (by kernel_rfl) (by rfl)
    (fun j v u => match j with | 0 => v = .slice px n cx | 1 => ∃ q c, v = .slice q n c ∧ Rw 3 cellsF u (.slice q n c) (linJ n x) ∧ Fresh W2.heap.size (.slice q n c) | 2 => v = mV n n p2 N c2 | 3 => ∃ q c, v = sJ q n c n n p2 N c2 ∧ Rw 3 cellsF u (.slice q n c) (linJ n x) ∧ Fresh W2.heap.size (.slice q n c) | 5 => v = .bool true | _ => False)
    (by
        intro j v u u' hb h
        split at h <;> first | exact h | (obtain ⟨q, c, e, h1, h2⟩ := h; exact ⟨q, c, e, h1.later hb, h2⟩)) (fun vs u0 u => ∃ q c, SBox u (w.heap.size + 1) q n c n n p2 N c2 ∧ Rw 3 cellsF u (.slice q n c) (linJ n x) ∧ Mx 3 cellsF u n n p2 N c2 (clrF f) ∧ Bl w u) ?step ?still ?store ?fin)
  case step =>
    intro j o t act u ho hdt hpu hsz hu hfr hin
    have hj : j < 6 := (Array.getElem?_eq_some_iff.1 ho).1
    obtain ⟨y0, y1, y2, _, _, _, _⟩ := k2.later hu
    rcases (by omega : j = 0 ∨ j = 1 ∨ j = 2 ∨ j = 3 ∨ j = 4 ∨ j = 5) with rfl | rfl | rfl | rfl | rfl | rfl
    · simp only [List.getElem?_toArray, List.getElem?_cons_zero, List.getElem?_cons_succ, Option.some.injEq] at ho
      subst ho
      obtain rfl := Option.some.inj hdt
      have i0 : act.eval (.tmp (0 : Nat)) = .slice px n cx := hfr 0 (by decide)
      exact plain_wp (by intro c h; cases h) (fun _ _ => trivial) (by simp only [execOp, i0, evalC, evalF, evalG]; simp [go_sem]) ⟨_, rfl, rfl, Bl.refl _⟩
    · simp only [List.getElem?_toArray, List.getElem?_cons_zero, List.getElem?_cons_succ, Option.some.injEq] at ho
      subst ho
      obtain rfl := Option.some.inj hdt
      have i18 : (act.eval (.tmp (18 : Nat))) = .slice px n cx := hin ⟨0, .data⟩ (by simp) rfl 18 rfl
      refine enter_wp 66 #[.slice px n cx] (by intro c h; cases h) (fun _ _ => trivial) (by simp only [execOp, evalC, evalF, evalG, resolve, i18, List.map_toArray, List.map_cons, List.map_nil]; simp [invoke, egC, Result.andThen, go_sem]) (by intro h; cases h) (callsIn_wide.2 (CL.out u hu)) ?_
      rintro e w' ⟨q, c, rfl, ⟨hR, hF⟩, hb⟩
      exact ⟨_, rfl, _, rfl, ⟨q, c, rfl, hR, fresh_le hF hu.size⟩, hb⟩
    · simp only [List.getElem?_toArray, List.getElem?_cons_zero, List.getElem?_cons_succ, Option.some.injEq] at ho
      subst ho
      obtain rfl := Option.some.inj hdt
      have i6 : act.eval (.tmp (6 : Nat)) = .pointer (some ⟨w2.heap.size, 0, none⟩) := hfr 6 (by decide)
      exact plain_wp (by intro c h; cases h) (fun _ _ => trivial) (by simp only [execOp, i6, evalC, evalF, evalG]; simp [go_sem, y0, y1, y2]) ⟨_, rfl, rfl, Bl.refl _⟩
    · simp only [List.getElem?_toArray, List.getElem?_cons_zero, List.getElem?_cons_succ, Option.some.injEq] at ho
      subst ho
      obtain rfl := Option.some.inj hdt
      have i19 : ∃ q c, (act.eval (.tmp (19 : Nat))) = .slice q n c ∧ Rw 3 cellsF u (.slice q n c) (linJ n x) ∧ Fresh W2.heap.size (.slice q n c) := hin ⟨1, .data⟩ (by simp) rfl 19 rfl
      have i20 : (act.eval (.tmp (20 : Nat))) = mV n n p2 N c2 := hin ⟨2, .data⟩ (by simp) rfl 20 rfl
      obtain ⟨q0, c0', e1, hq, hf⟩ := i19
      exact plain_wp (by intro c h; cases h) (fun _ _ => trivial) (by simp only [execOp, List.map_toArray, List.map_cons, List.map_nil, e1, i20]; simp [Tryz.buildRF, Result.andThen, go_sem]) ⟨_, rfl, ⟨q0, c0', rfl, hq, hf⟩, Bl.refl _⟩
    · simp only [List.getElem?_toArray, List.getElem?_cons_zero, List.getElem?_cons_succ, Option.some.injEq] at ho
      subst ho
      cases hdt
    · cases hpu
  case still =>
    intro j o t act u0 u ho hdt hpu hsz hu hfr hin
    have hj : j < 6 := (Array.getElem?_eq_some_iff.1 ho).1
    obtain ⟨y0, y1, y2, _, _, _, _⟩ := k2.later hu
    rcases (by omega : j = 0 ∨ j = 1 ∨ j = 2 ∨ j = 3 ∨ j = 4 ∨ j = 5) with rfl | rfl | rfl | rfl | rfl | rfl
    · cases hpu
    · cases hpu
    · cases hpu
    · cases hpu
    · cases hpu
    · simp only [List.getElem?_toArray, List.getElem?_cons_zero, List.getElem?_cons_succ, Option.some.injEq] at ho
      subst ho
      obtain rfl := Option.some.inj hdt
      exact plain_wp (by intro c h; cases h) (fun _ _ => trivial) (by simp only [execOp, evalC, evalF, evalG]; simp [go_sem]) ⟨_, rfl, rfl, rfl⟩
  case store =>
    intro o act u vs ho hsz hu hfr hin
    simp only [List.getElem?_toArray, List.getElem?_cons_zero, List.getElem?_cons_succ, Option.some.injEq] at ho
    subst ho
    have i4 : act.eval (.tmp (4 : Nat)) = .pointer (some ⟨w.heap.size + 1, 0, none⟩) := hfr 4 (by decide)
    obtain ⟨i21, k21⟩ : act.eval (.tmp (21 : Nat)) = vs 3 ∧ (∃ q c, (vs 3) = sJ q n c n n p2 N c2 ∧ Rw 3 cellsF u (.slice q n c) (linJ n x) ∧ Fresh W2.heap.size (.slice q n c)) := hin 3 21 rfl rfl
    obtain ⟨q0, c0', e1, hq, hf⟩ := k21
    rw [e1] at i21
    obtain ⟨c0, c1, c2', c3, f0, f1, f2, f3, lt⟩ := id (s2.later hu)
    exact skip_wp (by intro c h; cases h) (fun _ _ => trivial) (by simp only [execOp, i4, i21]; simp [go_sem, c0, c1, c2', c3, f0, f1, f2, f3]) ⟨rfl, q0, c0', (s2.later hu).fill _ _ _ _ _ _ _ _, rw_put4F hq (fresh_le hf (by omega)) _ _ _ _, mx_put4 (HP.out.later hu) HF.out _ _ _ _, Bl.put4 (B2.trans hu) (Nat.le_succ _) _ _ _ _⟩
  case fin =>
    intro vs vb u0 u hu hin hps
    have a0 := hin 0 18 rfl
    have a1 := hin 1 19 rfl
    have a2 := hin 2 20 rfl
    have a3 := hin 3 21 rfl
    have a5 := hin 5 5 rfl
    simp only [putL, Act.put, List.setIfInBounds_toArray, List.set_cons_zero, List.set_cons_succ, Nat.zero_add, Nat.reduceAdd, Nat.reduceBEq, Bool.or_false, Bool.or_true, Bool.false_or, Bool.true_or, Bool.false_eq_true, if_false, if_true, reduceIte, Nat.reduceEqDiff, beq_self_eq_true, Bool.or_self] at a0 a1 a2 a3 a5 ⊢
    rw [if_pos (by decide)] at hps
    simp only [a0, a2, a5]
    obtain ⟨q, c, sx, hR, hM, hbw⟩ := hps
    clear a1 a3
    have HR := hideP hR
    have HM := hideP hM
    clear hR hM
    obtain ⟨c0, c1, c2', c3, f0, f1, f2, f3, lt⟩ := sx
    go_wp2
    simp [bodyPost, results, Tryz.results25, go_sem, c0, c1, c2', c3]
    exact ⟨q, c, p2, c2, by simp, ⟨HR.out, HM.out⟩, hbw⟩
set_option maxHeartbeats 1000000 in
theorem rNewF_no (px : Option Addr) (nx cx : Nat) (r c : Int) (p : Option Addr) (N cap : Nat) (w : World) (hf : fitJ r c N nx = false) :
    Calls Tryz.prog 25 #[.slice px nx cx, mV r c p N cap] w fun e w' => e = .returned (.tuple #[sJ none 0 0 0 0 none 0 0, .bool false]) ∧ Bl w w' := by
  obtain ⟨W, hW⟩ : ∃ W, W = (w.alloc (.cells #[.int .i64 r, .int .i64 c, .slice p N cap] 30)).alloc (.cells #[.slice none 0 0, .int .i64 0, .int .i64 0, .slice none 0 0] 63) := ⟨_, rfl⟩
  have b0 : Bl w W := by rw [hW]; exact ((Bl.refl _).alloc _).alloc _
  have s0 : SBox W (w.heap.size + 1) none 0 0 0 0 none 0 0 := by rw [hW]; have := SBox.new (w.alloc (.cells #[.int .i64 r, .int .i64 c, .slice p N cap] 30)) none 0 0 0 0 none 0 0 63; rw [World.size_alloc] at this; exact this
  have HW := hideP hW
  clear hW
  go_enter Tryz.func25, Tryz.ntmps25
  go_wp2_with fail
  rw [← HW.out]
  refine (rFitsF _ _ _ _ _ _ _ _ _).mono ?_
  rintro e w1 ⟨rfl, h1⟩
  rw [hf]
  obtain ⟨c0, c1, c2, c3, f0, f1, f2, f3, lt⟩ := s0.later h1
  go_wp2
  simp [bodyPost, results, Tryz.results25, go_sem, c0, c1, c2, c3]
  exact Bl.put4 (b0.trans h1) (Nat.le_succ _) _ _ _ _
end Go.Proofs.YtljmggemdkfbiaaGreat

/- Contracts of Clone, Row, All, New where what is told lies in a block of its own that may be changed, of fractions (layer 8). Written by genHu.py. -/
namespace Go.Proofs.YtljmggemdkfbiaaGreat
open Go.RowKit Go.Shelf
set_option linter.unusedSimpArgs false
set_option linter.unusedVariables false
attribute [local go_sem] Oper.semAt_some
set_option maxHeartbeats 1000000 in
theorem vCloneZF (v : Value) (xs : List Fr) (w : World) (h : Rq 3 cellsF w v xs) (hl : xs.length ≤ 1000000) (hne : xs ≠ []) :
    Calls Tryz.prog 66 #[v] w fun e w' => ∃ u, e = .returned u ∧ RwZ 3 cellsF w' w.heap.size u xs ∧ Bl w w' := by
  have n0 := Tryz.nil0F
  have n1 := Tryz.nil1F
  obtain ⟨i0, hi, hz0, hz1, hz2⟩ := info_parts Tryz.info_F
  rcases h with ⟨p, cap, rfl, rfl, hpn⟩ | ⟨b, o, cap, rfl, hc, hb, hx⟩
  · exact absurd rfl hne
  · have HX := hideP hx
    clear hx n0
    go_enter Tryz.func66, Tryz.ntmps66
    go_wp2_with (at_builtin; refine wpList_append_own _ rfl _ _ 28 rfl w.heap.size 34 i0 (.agg #[.int .i64 0, .int .i64 0, .bool false]) 3 24 Tryz.underlying28 hi hz0 hz1 hz2 rfl (by decide) _ 0 [] rfl (World.ownsRow_made w #[] 0 (Nat.le_refl _) (by decide) rfl) ⟨b, o, none⟩ xs.length cap (xs.flatMap cellsF) rfl (flat_len cellsF_len xs) (flat_cells cellsF_len ((Rw_cells_later HX.out hb ((Bl.refl _).alloc _)))) (flat_one oneF_cells xs) (by unfold maxLen; omega) (by omega) (by simp) ?_; intro v' w1 hown' hgrow _)
    have R := hideP (RwZ.of_own (xs := xs) cellsF_len (by simpa using hown') hne)
    have hB : Bl w w1 := Below.grown (Below.alloc (Bl.refl w) (Nat.le_refl _) _) hgrow (by simp) (fun k e => by cases e; exact Nat.le_refl _)
    clear hown' hgrow
    go_wp2
    go_ret
    exact ⟨_, rfl, R.out, hB⟩
theorem RwZ.base {α : Type} {s : Nat} {c : α → List Value} {w : World} {lo lo' : Nat} {v : Value} {xs : List α} (h : RwZ s c w lo v xs) (k : lo' ≤ lo) : RwZ s c w lo' v xs := by
  obtain ⟨b, cap, e, hc, hlo, r⟩ := h
  exact ⟨b, cap, e, hc, Nat.le_trans k hlo, r⟩
theorem RwZ.set {α : Type} {s : Nat} {c : α → List Value} {w : World} {lo : Nat} {v : Value} {xs : List α} (h : RwZ s c w lo v xs) {p : Addr} (u : Value) (hf : p.block < lo) : RwZ s c (w.setCell p u) lo v xs := by
  obtain ⟨b, cap, rfl, hc, hlo, hb, hz, hx⟩ := h
  have hk : (w.setCell p u).heap[b]? = w.heap[b]? := Below.heap_setCell _ _ _ b (by omega)
  exact ⟨b, cap, rfl, hc, hlo, by simpa using hb, fun o => (World.frozen?_of_block (a := ⟨b, o, none⟩) hk).trans (hz o), fun j x hj k v hv => (World.cell?_of_block (a := ⟨b, j * s + k, none⟩) hk).trans (hx j x hj k v hv)⟩
theorem mNewZF (r c : Int) (p : Option Addr) (n cap : Nat) (xs : List Fr) (w : World) (hr : Rq 3 cellsF w (.slice p n cap) xs) (h : fitB r c n = true) (hn : xs.length = n) :
    Calls Tryz.prog 98 #[.int .i64 r, .int .i64 c, .slice p n cap] w fun e w' => ∃ p' cap', e = .returned (.tuple #[mV r c p' n cap', .bool true]) ∧ RwZ 3 cellsF w' w.heap.size (.slice p' n cap') xs ∧ Bl w w' := by
  have hl : n ≤ 1000000 := by obtain ⟨R, C, _, _, hd, rfl⟩ := fitB_nat h; have := hd.lt; omega
  obtain ⟨W, hW⟩ : ∃ W, W = w.alloc (.cells #[.int .i64 0, .int .i64 0, .slice none 0 0] 30) := ⟨_, rfl⟩
  have b0 : Bl w W := by rw [hW]; exact (Bl.refl _).alloc _
  have x0 : MBox W w.heap.size 0 0 none 0 0 := by rw [hW]; exact MBox.new w 0 0 none 0 0 _
  have hsz : W.heap.size = w.heap.size + 1 := by rw [hW]; simp
  have hne : xs ≠ [] := by
    obtain ⟨R, C, _, _, hd, e⟩ := fitB_nat h
    have := Mx.pos hd e
    intro e2
    rw [e2] at hn
    simp at hn
    omega
  have CL := hideP (vCloneZF (.slice p n cap) xs W (hr.later b0) (by omega) hne)
  have HW := hideP hW
  clear hW hr
  go_enter Tryz.func98, Tryz.ntmps98
  go_wp2_with fail
  rw [← HW.out]
  refine (fits_any _ _ _ _).mono ?_
  rintro e w1 ⟨rfl, rfl⟩
  rw [h]
  go_wp2_with fail
  refine CL.out.mono ?_
  rintro e w2 ⟨u, rfl, hR, h2⟩
  obtain ⟨p', cap', rfl, _, _⟩ := hR.rw.cut
  rw [hn] at hR ⊢
  have HR := hideP (hR.base (lo' := w.heap.size + 1) (by omega))
  obtain ⟨c0, c1, c2, f0, f1, f2, lt⟩ := x0.later h2
  clear hR CL
  go_wp2
  simp [bodyPost, results, Tryz.results98, go_sem, c0, c1, c2]
  exact ⟨p', cap', ⟨rfl, rfl⟩, (((HR.out.set _ (Nat.lt_succ_self _)).set _ (Nat.lt_succ_self _)).set _ (Nat.lt_succ_self _)).base (by omega), Bl.put3 (b0.trans h2) (Nat.le_refl _) _ _ _⟩
end Go.Proofs.YtljmggemdkfbiaaGreat

/- Contracts of tri's Root, of fractions (layer 7). Written by genTr.py. -/
namespace Go.Proofs.YtljmggemdkfbiaaGreat
open Go.RowKit
set_option linter.unusedSimpArgs false
set_option linter.unusedVariables false

end Go.Proofs.YtljmggemdkfbiaaGreat

/- Where a fold's triangle is fine, in fractions, its square is the square of what was folded (layer 8, HouseExact). Mathematics alone. -/
namespace Go.Proofs.YtljmggemdkfbiaaGreat
open Go.RowKit
set_option linter.unusedSimpArgs false
set_option linter.unusedVariables false

end Go.Proofs.YtljmggemdkfbiaaGreat

/- Contracts of house's away, less, of fractions (layer 8). Written by genHu.py. -/
namespace Go.Proofs.YtljmggemdkfbiaaGreat
open Go.RowKit Go.Shelf
set_option linter.unusedSimpArgs false
set_option linter.unusedVariables false
attribute [local go_sem] Oper.semAt_some

end Go.Proofs.YtljmggemdkfbiaaGreat

/- Contract of house's less, of fractions (layer 8). Written by genHu.py. -/
namespace Go.Proofs.YtljmggemdkfbiaaGreat
open Go.RowKit Go.Shelf
set_option linter.unusedSimpArgs false
set_option linter.unusedVariables false
attribute [local go_sem] Oper.semAt_some

end Go.Proofs.YtljmggemdkfbiaaGreat

/- Contract of house's fold, of fractions (layer 8). Written by genHu.py. -/
namespace Go.Proofs.YtljmggemdkfbiaaGreat
open Go.RowKit Go.Shelf
set_option linter.unusedSimpArgs false
set_option linter.unusedVariables false
attribute [local go_sem] Oper.semAt_some

theorem FBox.but {w w' : World} {b : Nat} {x : Fr} {S : Nat → Prop} (h : FBox w b x) (k : But S w w') (hs : ¬ S b) : FBox w' b x := by
  obtain ⟨c0, c1, c2, f0, f1, f2, lt⟩ := h
  refine ⟨(k.cell _ _ lt hs).trans c0, (k.cell _ _ lt hs).trans c1, (k.cell _ _ lt hs).trans c2, (k.froz _ _ lt hs).trans f0, (k.froz _ _ lt hs).trans f1, (k.froz _ _ lt hs).trans f2, Nat.lt_of_lt_of_le lt k.size⟩
theorem Tryz.sizeF : (Tryz.prog.info? 34).map (·.size) = some 3 := by kernel_rfl
end Go.Proofs.YtljmggemdkfbiaaGreat

/- Contract of root's change, of fractions (layer 10). Written by genRo.py. -/
namespace Go.Proofs.YtljmggemdkfbiaaGreat
open Go.RowKit
set_option linter.unusedSimpArgs false
set_option linter.unusedVariables false

theorem butRF (u : World) (b : Nat) (v0 v1 v2 : Value) : But (fun i => i = b) u ((((u.setCell ⟨b, 0, none⟩ v0).setCell ⟨b, 1, none⟩ v1).setCell ⟨b, 2, none⟩ v2)) := (((but_cell1 (S := fun i => i = b) rfl _ _ _).trans (but_cell1 (S := fun i => i = b) rfl _ _ _)).trans (but_cell1 (S := fun i => i = b) rfl _ _ _))
theorem linJ_set9F {n i : Nat} (f : Nat → Fr) (hi : i < n) (y : Fr) : (linJ n f).set i y = linJ n (fun r => if r = i then y else f r) := by
  refine List.ext_getElem? fun k => ?_
  rw [List.getElem?_set]
  by_cases hk : k < n
  · rw [linJ_get _ hk, linJ_get _ hk]
    by_cases e : i = k
    · subst e
      simp [linJ_len, hi]
    · rw [if_neg e, if_neg (fun h => e h.symm)]
  · rw [if_neg (by omega)]
    rw [List.getElem?_eq_none (by rw [linJ_len]; omega), List.getElem?_eq_none (by rw [linJ_len]; omega)]
set_option maxRecDepth 100000 in
set_option maxHeartbeats 8000000 in
theorem rChangeF (n N g cap ge ce j0 lo : Nat) (t : StO Fr) (x : Fr) (w : World) (hd : Dim n n) (hN : N = n * n) (h : RwZ 3 cellsF w lo (.slice (some ⟨g, 0, none⟩) N cap) (mk n n t.s)) (he : RwZ 3 cellsF w lo (.slice (some ⟨ge, 0, none⟩) n ce) (linJ n t.e)) (hne : g ≠ ge) (hj0 : j0 < n) :
    Calls Tryz.prog 115 #[mV n n (some ⟨g, 0, none⟩) N cap, .slice (some ⟨ge, 0, none⟩) n ce, .int .i64 j0, frV x, frV t.a] w fun e w' => e = .returned (frV (bO kdF t.a x)) ∧ RwZ 3 cellsF w' lo (.slice (some ⟨g, 0, none⟩) N cap) (mk n n (stepO kdF n j0 x t).s) ∧ RwZ 3 cellsF w' lo (.slice (some ⟨ge, 0, none⟩) n ce) (linJ n (stepO kdF n j0 x t).e) ∧ But (fun b => b = g ∨ b = ge) w w' := by
  have fm : Tryz.prog.follows .mixedOrders = true := by kernel_rfl
  have egT := enters_of Tryz.func113 (by kernel_rfl) rfl
  have egA := enters_of Tryz.func184 (by kernel_rfl) rfl
  have egS := enters_of Tryz.func192 (by kernel_rfl) rfl
  have egM := enters_of Tryz.func187 (by kernel_rfl) rfl
  have egD := enters_of Tryz.func185 (by kernel_rfl) rfl
  have egR := enters_of Tryz.func190 (by kernel_rfl) rfl
  have mvD := Tryz.mDivF
  have mvR := Tryz.mRootF
  have hn16 := hd.r2
  have HN := hideP hN
  have HD := hideP hd
  obtain ⟨av, hav⟩ : ∃ y, y = t.a := ⟨_, rfl⟩
  obtain ⟨ww, hww⟩ : ∃ y, y = mulR x x := ⟨_, rfl⟩
  obtain ⟨bb, hbb⟩ : ∃ y, y = addR av ww := ⟨_, rfl⟩
  obtain ⟨q1, hq1⟩ : ∃ y, y = divR av bb := ⟨_, rfl⟩
  obtain ⟨dd, hdd⟩ : ∃ y, y = rootR q1 := ⟨_, rfl⟩
  obtain ⟨ab, hab⟩ : ∃ y, y = mulR av bb := ⟨_, rfl⟩
  obtain ⟨rt, hrt⟩ : ∃ y, y = rootR ab := ⟨_, rfl⟩
  obtain ⟨cc, hcc⟩ : ∃ y, y = divR x rt := ⟨_, rfl⟩
  have HWW := hideP (fun u => by have := rmul_any x x u; rw [← hww] at this; exact this)
  have HBB := hideP (fun u => by have := radd_any av ww u; rw [← hbb] at this; exact this)
  have HQ1 := hideP (fun u => by have := rdiv_any av bb u; rw [← hq1] at this; exact this)
  have HD1 := hideP (fun u => by have := rroot_any q1 u; rw [← hdd] at this; exact this)
  have HAB := hideP (fun u => by have := rmul_any av bb u; rw [← hab] at this; exact this)
  have HRT := hideP (fun u => by have := rroot_any ab u; rw [← hrt] at this; exact this)
  have HCC := hideP (fun u => by have := rdiv_any x rt u; rw [← hcc] at this; exact this)
  have HAV := hideP hav
  have HBO := hideP (show bO kdF t.a x = bb from by rw [hbb, hww, hav]; rfl)
  have HDD := hideP (show dd = dO kdF av x from by rw [hdd, hq1, hbb, hww]; rfl)
  have HCCQ := hideP (show cc = cO kdF av x from by rw [hcc, hrt, hab, hbb, hww]; rfl)
  rw [HBO.out, ← hav]
  clear hav hww hbb hq1 hdd hab hrt hcc
  obtain ⟨W, hW⟩ : ∃ W, W = (((w.alloc (.cells #[.int .i64 n, .int .i64 n, .slice (some ⟨g, 0, none⟩) N cap] 30)).alloc (.cells #[.int .i64 x.n, .int .i64 x.d, .bool x.bad] 34)).alloc (.cells #[.int .i64 av.n, .int .i64 av.d, .bool av.bad] 34)).alloc (.cells #[.int .i64 0, .int .i64 0, .bool false] 34) := ⟨_, rfl⟩
  have b0 : Bl w W := by rw [hW]; exact ((((Bl.refl _).alloc _).alloc _).alloc _).alloc _
  have m0 : MBox W w.heap.size n n (some ⟨g, 0, none⟩) N cap := by rw [hW]; exact (MBox.new w _ _ _ _ _ _).later ((((Bl.refl _).alloc _).alloc _).alloc _)
  have kw : FBox W (w.heap.size + 1) x := by rw [hW]; have := (FBox.new (w.alloc (.cells #[.int .i64 n, .int .i64 n, .slice (some ⟨g, 0, none⟩) N cap] 30)) x 34).later (((Bl.refl _).alloc (.cells #[.int .i64 av.n, .int .i64 av.d, .bool av.bad] 34)).alloc (.cells #[.int .i64 0, .int .i64 0, .bool false] 34)); simp only [World.size_alloc] at this; exact this
  have ka : FBox W (w.heap.size + 1 + 1) av := by rw [hW]; have := (FBox.new ((w.alloc (.cells #[.int .i64 n, .int .i64 n, .slice (some ⟨g, 0, none⟩) N cap] 30)).alloc (.cells #[.int .i64 x.n, .int .i64 x.d, .bool x.bad] 34)) av 34).later ((Bl.refl _).alloc (.cells #[.int .i64 0, .int .i64 0, .bool false] 34)); simp only [World.size_alloc] at this; exact this
  have kz : FBox W (w.heap.size + 1 + 1 + 1) zeroR := by rw [hW]; have := (FBox.new (((w.alloc (.cells #[.int .i64 n, .int .i64 n, .slice (some ⟨g, 0, none⟩) N cap] 30)).alloc (.cells #[.int .i64 x.n, .int .i64 x.d, .bool x.bad] 34)).alloc (.cells #[.int .i64 av.n, .int .i64 av.d, .bool av.bad] 34)) zeroR 34); simp only [World.size_alloc] at this; exact this
  have hWs : W.heap.size = w.heap.size + 1 + 1 + 1 + 1 := by rw [hW]; simp
  have hglt := h.glt
  have hgelt := he.glt
  have H0 := hideP (h.later b0)
  have E0 := hideP (he.later b0)
  have HW := hideP hW
  clear hW h he hd hN
  go_enter Tryz.func115, Tryz.ntmps115
  go_wp2_with fail
  try simp only [World.size_alloc]
  rw [← HW.out]
  refine (wpIn_wide (n := 8)).1 (region_q fm [some 16, some 17, some 18, some 19, some 20, some 21, some 22, some 11, none] (fun _ => false) 8 (by kernel_rfl) (by rfl)
      (fun j v u => match j with | 0 => v = frV av | 1 => v = .iface 34 (frV av) | 2 => v = frV x | 3 => v = .iface 34 (frV x) | 4 => v = frV x | 5 => v = frV ww | 6 => v = frV bb | 7 => ∃ b, v = .pointer (some ⟨b, 0, none⟩) ∧ W.heap.size ≤ b ∧ FBox u b zeroR | _ => False)
      (by
        intro j v u u' hb h
        split at h <;> first | exact h | (obtain ⟨b, e, h1, h2⟩ := h; exact ⟨b, e, h1, h2.later hb⟩) | (obtain ⟨q, c, e, h1⟩ := h; exact ⟨q, c, e, h1.later hb⟩)) (fun vs u0 u => ∃ b, vs 7 = .pointer (some ⟨b, 0, none⟩) ∧ W.heap.size ≤ b ∧ FBox u b bb ∧ Bl W u) ?step ?still ?store ?fin)
  case step =>
    intro j o t act u ho hdt hpu hsz hu hfr hin
    have hj : j < 9 := (Array.getElem?_eq_some_iff.1 ho).1
    skip
    rcases (by omega : j = 0 ∨ j = 1 ∨ j = 2 ∨ j = 3 ∨ j = 4 ∨ j = 5 ∨ j = 6 ∨ j = 7 ∨ j = 8) with rfl | rfl | rfl | rfl | rfl | rfl | rfl | rfl | rfl
    · simp only [List.getElem?_toArray, List.getElem?_cons_zero, List.getElem?_cons_succ, Option.some.injEq] at ho
      subst ho
      obtain rfl := Option.some.inj hdt
      have i9 : act.eval (.tmp (9 : Nat)) = .pointer (some ⟨w.heap.size + 1 + 1, 0, none⟩) := hfr 9 (by decide)
      obtain ⟨c0, c1, c2, f0, f1, f2, _⟩ := ka.later hu
      exact plain_wp (by intro c h; cases h) (fun _ _ => trivial) (by simp only [execOp, i9, evalC, evalF, evalG]; simp [go_sem, c0, c1, c2]) ⟨_, rfl, rfl, Bl.refl _⟩
    · simp only [List.getElem?_toArray, List.getElem?_cons_zero, List.getElem?_cons_succ, Option.some.injEq] at ho
      subst ho
      obtain rfl := Option.some.inj hdt
      have i16 : (act.eval (.tmp (16 : Nat))) = frV av := hin ⟨0, .data⟩ (by simp) rfl 16 rfl
      exact plain_wp (by intro c h; cases h) (fun _ _ => trivial) (by simp only [execOp, i16, evalC, evalF, evalG]; simp [go_sem]) ⟨_, rfl, rfl, Bl.refl _⟩
    · simp only [List.getElem?_toArray, List.getElem?_cons_zero, List.getElem?_cons_succ, Option.some.injEq] at ho
      subst ho
      obtain rfl := Option.some.inj hdt
      have i8 : act.eval (.tmp (8 : Nat)) = .pointer (some ⟨w.heap.size + 1, 0, none⟩) := hfr 8 (by decide)
      obtain ⟨c0, c1, c2, f0, f1, f2, _⟩ := kw.later hu
      exact plain_wp (by intro c h; cases h) (fun _ _ => trivial) (by simp only [execOp, i8, evalC, evalF, evalG]; simp [go_sem, c0, c1, c2]) ⟨_, rfl, rfl, Bl.refl _⟩
    · simp only [List.getElem?_toArray, List.getElem?_cons_zero, List.getElem?_cons_succ, Option.some.injEq] at ho
      subst ho
      obtain rfl := Option.some.inj hdt
      have i18 : (act.eval (.tmp (18 : Nat))) = frV x := hin ⟨2, .data⟩ (by simp) rfl 18 rfl
      exact plain_wp (by intro c h; cases h) (fun _ _ => trivial) (by simp only [execOp, i18, evalC, evalF, evalG]; simp [go_sem]) ⟨_, rfl, rfl, Bl.refl _⟩
    · simp only [List.getElem?_toArray, List.getElem?_cons_zero, List.getElem?_cons_succ, Option.some.injEq] at ho
      subst ho
      obtain rfl := Option.some.inj hdt
      have i8 : act.eval (.tmp (8 : Nat)) = .pointer (some ⟨w.heap.size + 1, 0, none⟩) := hfr 8 (by decide)
      obtain ⟨c0, c1, c2, f0, f1, f2, _⟩ := kw.later hu
      exact plain_wp (by intro c h; cases h) (fun _ _ => trivial) (by simp only [execOp, i8, evalC, evalF, evalG]; simp [go_sem, c0, c1, c2]) ⟨_, rfl, rfl, Bl.refl _⟩
    · simp only [List.getElem?_toArray, List.getElem?_cons_zero, List.getElem?_cons_succ, Option.some.injEq] at ho
      subst ho
      obtain rfl := Option.some.inj hdt
      have i19 : (act.eval (.tmp (19 : Nat))) = .iface 34 (frV x) := hin ⟨3, .data⟩ (by simp) rfl 19 rfl
      have i20 : (act.eval (.tmp (20 : Nat))) = frV x := hin ⟨4, .data⟩ (by simp) rfl 20 rfl
      have iv := Tryz.mMulF
      refine enter_wp 187 #[frV x, frV x] (by intro c h; cases h) (fun _ _ => trivial) (by simp only [execOp, evalC, evalF, evalG, resolve, i19, i20, List.map_toArray, List.map_cons, List.map_nil]; simp [invoke, iv, egM, Result.andThen, go_sem]) (by intro h; cases h) (callsIn_wide.2 (HWW.out u)) ?_
      rintro e w' ⟨rfl, hb⟩
      exact ⟨_, rfl, _, rfl, rfl, hb⟩
    · simp only [List.getElem?_toArray, List.getElem?_cons_zero, List.getElem?_cons_succ, Option.some.injEq] at ho
      subst ho
      obtain rfl := Option.some.inj hdt
      have i17 : (act.eval (.tmp (17 : Nat))) = .iface 34 (frV av) := hin ⟨1, .data⟩ (by simp) rfl 17 rfl
      have i21 : (act.eval (.tmp (21 : Nat))) = frV ww := hin ⟨5, .data⟩ (by simp) rfl 21 rfl
      have iv := Tryz.mAddF
      refine enter_wp 184 #[frV av, frV ww] (by intro c h; cases h) (fun _ _ => trivial) (by simp only [execOp, evalC, evalF, evalG, resolve, i17, i21, List.map_toArray, List.map_cons, List.map_nil]; simp [invoke, iv, egA, Result.andThen, go_sem]) (by intro h; cases h) (callsIn_wide.2 (HBB.out u)) ?_
      rintro e w' ⟨rfl, hb⟩
      exact ⟨_, rfl, _, rfl, rfl, hb⟩
    · simp only [List.getElem?_toArray, List.getElem?_cons_zero, List.getElem?_cons_succ, Option.some.injEq] at ho
      subst ho
      obtain rfl := Option.some.inj hdt
      exact plain_wp (by intro c h; cases h) (fun _ _ => trivial) (w' := u.alloc (.cells #[.int .i64 0, .int .i64 0, .bool false] 34)) (v := .pointer (some ⟨u.heap.size, 0, none⟩)) (by simp only [execOp]; simp [go_sem]) ⟨_, rfl, ⟨u.heap.size, rfl, hu.size, FBox.new u zeroR _⟩, (Bl.refl _).alloc _⟩
    · simp only [List.getElem?_toArray, List.getElem?_cons_zero, List.getElem?_cons_succ, Option.some.injEq] at ho
      subst ho
      cases hdt
  case still =>
    intro j o t act u0 u ho hdt hpu
    cases hpu
  case store =>
    intro o act u vs ho hsz hu hfr hin
    simp only [List.getElem?_toArray, List.getElem?_cons_zero, List.getElem?_cons_succ, Option.some.injEq] at ho
    subst ho
    obtain ⟨i11, k11⟩ : act.eval (.tmp (11 : Nat)) = vs 7 ∧ (∃ b, (vs 7) = .pointer (some ⟨b, 0, none⟩) ∧ W.heap.size ≤ b ∧ FBox u b zeroR) := hin 7 11 rfl rfl
    obtain ⟨i22, k22⟩ : act.eval (.tmp (22 : Nat)) = vs 6 ∧ ((vs 6) = frV bb) := hin 6 22 rfl rfl
    obtain ⟨b, e1, hb, bx⟩ := k11
    rw [e1] at i11
    replace i22 := i22.trans k22
    obtain ⟨c0, c1, c2, f0, f1, f2, ltb⟩ := id bx
    exact skip_wp (by intro c h; cases h) (fun _ _ => trivial) (by simp only [execOp, i11, i22]; simp [go_sem, zeroR, c0, c1, c2, f0, f1, f2]) ⟨rfl, b, e1, hb, bx.fill _, Bl.set3 hu hb _ _ _⟩
  case fin =>
    intro vs vb u0 u hu hin hps
    have a0 := hin 0 16 rfl
    have a1 := hin 1 17 rfl
    have a2 := hin 2 18 rfl
    have a3 := hin 3 19 rfl
    have a4 := hin 4 20 rfl
    have a5 := hin 5 21 rfl
    have a6 := hin 6 22 rfl
    have a7 := hin 7 11 rfl
    simp only [putL, Act.put, List.setIfInBounds_toArray, List.set_cons_zero, List.set_cons_succ, Nat.zero_add, Nat.reduceAdd, Nat.reduceBEq, Bool.or_false, Bool.or_true, Bool.false_or, Bool.true_or, Bool.false_eq_true, if_false, if_true, reduceIte, Nat.reduceEqDiff, beq_self_eq_true, Bool.or_self] at a0 a1 a2 a3 a4 a5 a6 a7 ⊢
    rw [if_pos (by decide)] at hps
    simp only [a0, a1, a2, a3, a4, a5, a6]
    obtain ⟨b11, eb, hb11, kb, hbu⟩ := hps
    simp only [eb]
    obtain ⟨w1, rfl⟩ : ∃ w1, w1 = u := ⟨_, rfl⟩
    have b1 : Bl W w1 := hbu
    have lt11 : W.heap.size ≤ b11 := hb11
    clear hin hu a0 a1 a2 a3 a4 a5 a6
    obtain ⟨c0, c1, c2, f0, f1, f2, _⟩ := ka.later b1
    obtain ⟨d0, d1, d2, g0, g1, g2, _⟩ := kb
    have kb : FBox w1 b11 bb := ⟨d0, d1, d2, g0, g1, g2, by assumption⟩
    go_wp2_with fail
    refine (HQ1.out _).mono ?_
    rintro e w2 ⟨rfl, h2⟩
    clear c0 c1 c2 f0 f1 f2 d0 d1 d2 g0 g1 g2
    go_wp2_with fail
    refine (HD1.out _).mono ?_
    rintro e w2' ⟨rfl, h2'⟩
    obtain ⟨w3, hw3⟩ : ∃ w3, w3 = w2'.alloc (.cells #[.int .i64 dd.n, .int .i64 dd.d, .bool dd.bad] 34) := ⟨_, rfl⟩
    have b2a : Bl w2' w3 := by rw [hw3]; exact (Bl.refl _).alloc _
    have kd : FBox w3 w2'.heap.size dd := by rw [hw3]; exact FBox.new w2' dd _
    have b13 : Bl w1 w3 := (h2.trans h2').trans b2a
    have b3 : Bl W w3 := b1.trans b13
    obtain ⟨b12, hb12⟩ : ∃ b12, b12 = w2'.heap.size := ⟨_, rfl⟩
    have lt12 : W.heap.size ≤ b12 := by rw [hb12]; have := (b1.trans (h2.trans h2')).size; omega
    have HW3 := hideP hw3
    clear hw3
    go_wp2_with fail
    rw [← HW3.out, ← hb12]
    rw [← hb12] at kd
    clear hb12
    refine (wpIn_wide (n := 8)).1 (region_q fm [some 29, some 30, some 31, some 32, some 33, some 34, some 35, some 36, some 37, some 13, none] (fun _ => false) 10 (by kernel_rfl) (by rfl)
          (fun j v u => match j with | 0 => v = frV x | 1 => v = .iface 34 (frV x) | 2 => v = frV av | 3 => v = .iface 34 (frV av) | 4 => v = frV bb | 5 => v = frV ab | 6 => v = .iface 34 (frV ab) | 7 => v = frV rt | 8 => v = frV cc | 9 => ∃ b, v = .pointer (some ⟨b, 0, none⟩) ∧ w3.heap.size ≤ b ∧ FBox u b zeroR | _ => False)
          (by
            intro j v u u' hb h
            split at h <;> first | exact h | (obtain ⟨b, e, h1, h2⟩ := h; exact ⟨b, e, h1, h2.later hb⟩) | (obtain ⟨q, c, e, h1⟩ := h; exact ⟨q, c, e, h1.later hb⟩)) (fun vs u0 u => ∃ b, vs 9 = .pointer (some ⟨b, 0, none⟩) ∧ w3.heap.size ≤ b ∧ FBox u b cc ∧ Bl w3 u) ?step ?still ?store ?fin)
    case step =>
      intro j o t act u ho hdt hpu hsz hu hfr hin
      have hj : j < 11 := (Array.getElem?_eq_some_iff.1 ho).1
      skip
      rcases (by omega : j = 0 ∨ j = 1 ∨ j = 2 ∨ j = 3 ∨ j = 4 ∨ j = 5 ∨ j = 6 ∨ j = 7 ∨ j = 8 ∨ j = 9 ∨ j = 10) with rfl | rfl | rfl | rfl | rfl | rfl | rfl | rfl | rfl | rfl | rfl
      · simp only [List.getElem?_toArray, List.getElem?_cons_zero, List.getElem?_cons_succ, Option.some.injEq] at ho
        subst ho
        obtain rfl := Option.some.inj hdt
        have i8 : act.eval (.tmp (8 : Nat)) = .pointer (some ⟨w.heap.size + 1, 0, none⟩) := hfr 8 (by decide)
        obtain ⟨c0, c1, c2, f0, f1, f2, _⟩ := kw.later (b3.trans hu)
        exact plain_wp (by intro c h; cases h) (fun _ _ => trivial) (by simp only [execOp, i8, evalC, evalF, evalG]; simp [go_sem, c0, c1, c2]) ⟨_, rfl, rfl, Bl.refl _⟩
      · simp only [List.getElem?_toArray, List.getElem?_cons_zero, List.getElem?_cons_succ, Option.some.injEq] at ho
        subst ho
        obtain rfl := Option.some.inj hdt
        have i29 : (act.eval (.tmp (29 : Nat))) = frV x := hin ⟨0, .data⟩ (by simp) rfl 29 rfl
        exact plain_wp (by intro c h; cases h) (fun _ _ => trivial) (by simp only [execOp, i29, evalC, evalF, evalG]; simp [go_sem]) ⟨_, rfl, rfl, Bl.refl _⟩
      · simp only [List.getElem?_toArray, List.getElem?_cons_zero, List.getElem?_cons_succ, Option.some.injEq] at ho
        subst ho
        obtain rfl := Option.some.inj hdt
        have i9 : act.eval (.tmp (9 : Nat)) = .pointer (some ⟨w.heap.size + 1 + 1, 0, none⟩) := hfr 9 (by decide)
        obtain ⟨c0, c1, c2, f0, f1, f2, _⟩ := ka.later (b3.trans hu)
        exact plain_wp (by intro c h; cases h) (fun _ _ => trivial) (by simp only [execOp, i9, evalC, evalF, evalG]; simp [go_sem, c0, c1, c2]) ⟨_, rfl, rfl, Bl.refl _⟩
      · simp only [List.getElem?_toArray, List.getElem?_cons_zero, List.getElem?_cons_succ, Option.some.injEq] at ho
        subst ho
        obtain rfl := Option.some.inj hdt
        have i31 : (act.eval (.tmp (31 : Nat))) = frV av := hin ⟨2, .data⟩ (by simp) rfl 31 rfl
        exact plain_wp (by intro c h; cases h) (fun _ _ => trivial) (by simp only [execOp, i31, evalC, evalF, evalG]; simp [go_sem]) ⟨_, rfl, rfl, Bl.refl _⟩
      · simp only [List.getElem?_toArray, List.getElem?_cons_zero, List.getElem?_cons_succ, Option.some.injEq] at ho
        subst ho
        obtain rfl := Option.some.inj hdt
        have i11 : act.eval (.tmp (11 : Nat)) = .pointer (some ⟨b11, 0, none⟩) := hfr 11 (by decide)
        obtain ⟨c0, c1, c2, f0, f1, f2, _⟩ := kb.later (b13.trans hu)
        exact plain_wp (by intro c h; cases h) (fun _ _ => trivial) (by simp only [execOp, i11, evalC, evalF, evalG]; simp [go_sem, c0, c1, c2]) ⟨_, rfl, rfl, Bl.refl _⟩
      · simp only [List.getElem?_toArray, List.getElem?_cons_zero, List.getElem?_cons_succ, Option.some.injEq] at ho
        subst ho
        obtain rfl := Option.some.inj hdt
        have i32 : (act.eval (.tmp (32 : Nat))) = .iface 34 (frV av) := hin ⟨3, .data⟩ (by simp) rfl 32 rfl
        have i33 : (act.eval (.tmp (33 : Nat))) = frV bb := hin ⟨4, .data⟩ (by simp) rfl 33 rfl
        have iv := Tryz.mMulF
        refine enter_wp 187 #[frV av, frV bb] (by intro c h; cases h) (fun _ _ => trivial) (by simp only [execOp, evalC, evalF, evalG, resolve, i32, i33, List.map_toArray, List.map_cons, List.map_nil]; simp [invoke, iv, egM, Result.andThen, go_sem]) (by intro h; cases h) (callsIn_wide.2 (HAB.out u)) ?_
        rintro e w' ⟨rfl, hb⟩
        exact ⟨_, rfl, _, rfl, rfl, hb⟩
      · simp only [List.getElem?_toArray, List.getElem?_cons_zero, List.getElem?_cons_succ, Option.some.injEq] at ho
        subst ho
        obtain rfl := Option.some.inj hdt
        have i34 : (act.eval (.tmp (34 : Nat))) = frV ab := hin ⟨5, .data⟩ (by simp) rfl 34 rfl
        exact plain_wp (by intro c h; cases h) (fun _ _ => trivial) (by simp only [execOp, i34, evalC, evalF, evalG]; simp [go_sem]) ⟨_, rfl, rfl, Bl.refl _⟩
      · simp only [List.getElem?_toArray, List.getElem?_cons_zero, List.getElem?_cons_succ, Option.some.injEq] at ho
        subst ho
        obtain rfl := Option.some.inj hdt
        have i35 : (act.eval (.tmp (35 : Nat))) = .iface 34 (frV ab) := hin ⟨6, .data⟩ (by simp) rfl 35 rfl
        have iv := Tryz.mRootF
        refine enter_wp 190 #[frV ab] (by intro c h; cases h) (fun _ _ => trivial) (by simp only [execOp, evalC, evalF, evalG, resolve, i35, List.map_toArray, List.map_cons, List.map_nil]; simp [invoke, iv, egR, Result.andThen, go_sem]) (by intro h; cases h) (callsIn_wide.2 (HRT.out u)) ?_
        rintro e w' ⟨rfl, hb⟩
        exact ⟨_, rfl, _, rfl, rfl, hb⟩
      · simp only [List.getElem?_toArray, List.getElem?_cons_zero, List.getElem?_cons_succ, Option.some.injEq] at ho
        subst ho
        obtain rfl := Option.some.inj hdt
        have i30 : (act.eval (.tmp (30 : Nat))) = .iface 34 (frV x) := hin ⟨1, .data⟩ (by simp) rfl 30 rfl
        have i36 : (act.eval (.tmp (36 : Nat))) = frV rt := hin ⟨7, .data⟩ (by simp) rfl 36 rfl
        have iv := Tryz.mDivF
        refine enter_wp 185 #[frV x, frV rt] (by intro c h; cases h) (fun _ _ => trivial) (by simp only [execOp, evalC, evalF, evalG, resolve, i30, i36, List.map_toArray, List.map_cons, List.map_nil]; simp [invoke, iv, egD, Result.andThen, go_sem]) (by intro h; cases h) (callsIn_wide.2 (HCC.out u)) ?_
        rintro e w' ⟨rfl, hb⟩
        exact ⟨_, rfl, _, rfl, rfl, hb⟩
      · simp only [List.getElem?_toArray, List.getElem?_cons_zero, List.getElem?_cons_succ, Option.some.injEq] at ho
        subst ho
        obtain rfl := Option.some.inj hdt
        exact plain_wp (by intro c h; cases h) (fun _ _ => trivial) (w' := u.alloc (.cells #[.int .i64 0, .int .i64 0, .bool false] 34)) (v := .pointer (some ⟨u.heap.size, 0, none⟩)) (by simp only [execOp]; simp [go_sem]) ⟨_, rfl, ⟨u.heap.size, rfl, hu.size, FBox.new u zeroR _⟩, (Bl.refl _).alloc _⟩
      · simp only [List.getElem?_toArray, List.getElem?_cons_zero, List.getElem?_cons_succ, Option.some.injEq] at ho
        subst ho
        cases hdt
    case still =>
      intro j o t act u0 u ho hdt hpu
      cases hpu
    case store =>
      intro o act u vs ho hsz hu hfr hin
      simp only [List.getElem?_toArray, List.getElem?_cons_zero, List.getElem?_cons_succ, Option.some.injEq] at ho
      subst ho
      obtain ⟨i13, k13⟩ : act.eval (.tmp (13 : Nat)) = vs 9 ∧ (∃ b, (vs 9) = .pointer (some ⟨b, 0, none⟩) ∧ w3.heap.size ≤ b ∧ FBox u b zeroR) := hin 9 13 rfl rfl
      obtain ⟨i37, k37⟩ : act.eval (.tmp (37 : Nat)) = vs 8 ∧ ((vs 8) = frV cc) := hin 8 37 rfl rfl
      obtain ⟨b, e1, hb, bx⟩ := k13
      rw [e1] at i13
      replace i37 := i37.trans k37
      obtain ⟨c0, c1, c2, f0, f1, f2, ltb⟩ := id bx
      exact skip_wp (by intro c h; cases h) (fun _ _ => trivial) (by simp only [execOp, i13, i37]; simp [go_sem, zeroR, c0, c1, c2, f0, f1, f2]) ⟨rfl, b, e1, hb, bx.fill _, Bl.set3 hu hb _ _ _⟩
    case fin =>
      intro vs vb u0 u hu hin hps
      have a0 := hin 0 29 rfl
      have a1 := hin 1 30 rfl
      have a2 := hin 2 31 rfl
      have a3 := hin 3 32 rfl
      have a4 := hin 4 33 rfl
      have a5 := hin 5 34 rfl
      have a6 := hin 6 35 rfl
      have a7 := hin 7 36 rfl
      have a8 := hin 8 37 rfl
      have a9 := hin 9 13 rfl
      simp only [putL, Act.put, List.setIfInBounds_toArray, List.set_cons_zero, List.set_cons_succ, Nat.zero_add, Nat.reduceAdd, Nat.reduceBEq, Bool.or_false, Bool.or_true, Bool.false_or, Bool.true_or, Bool.false_eq_true, if_false, if_true, reduceIte, Nat.reduceEqDiff, beq_self_eq_true, Bool.or_self] at a0 a1 a2 a3 a4 a5 a6 a7 a8 a9 ⊢
      rw [if_pos (by decide)] at hps
      simp only [a0, a1, a2, a3, a4, a5, a6, a7, a8]
      obtain ⟨b13', eb, hb13, kc, hbu⟩ := hps
      simp only [eb]
      obtain ⟨w5, rfl⟩ : ∃ w5, w5 = u := ⟨_, rfl⟩
      have b35 : Bl w3 w5 := hbu
      have b5 : Bl W w5 := b3.trans hbu
      have B5 : Bl W w5 := b5
      have b05 : Bl W W := Bl.refl _
      have b15' : Bl w1 w5 := b13.trans hbu
      have lt13 : w3.heap.size ≤ b13' := hb13
      have lt12 := lt12
      clear hin hu a0 a1 a2 a3 a4 a5 a6 a7 a8
      go_wp2_with fail
      go_loopw [14] (fun v wr => ∃ i : Nat, v = .int .i64 i ∧ j0 ≤ i ∧ i ≤ n ∧ RwZ 3 cellsF wr lo (.slice (some ⟨g, 0, none⟩) N cap) (mk n n (partS kdF j0 i x t)) ∧ RwZ 3 cellsF wr lo (.slice (some ⟨ge, 0, none⟩) n ce) (linJ n (partE kdF j0 i x t)) ∧ But (fun b => b = g ∨ b = ge) w5 wr) (fun v _ => n - (intOf v).toNat)
      case atStart => exact ⟨j0, rfl, Nat.le_refl _, by omega, by rw [partS_zero]; exact H0.out.later B5, by rw [partE_zero]; exact E0.out.later B5, But.refl _ _⟩
      case round =>
        obtain ⟨i, rfl, hji, hin, hr, he, bt⟩ := hrel
        have HR := hideP hr
        have HE := hideP he
        clear hr he
        have mb : MBox wr w.heap.size n n (some ⟨g, 0, none⟩) N cap := (m0.later b5).but bt (by have := hglt; have := hgelt; omega)
        by_cases hlt : i < n
        · obtain ⟨a, q, e1, e2, hq1, hq3, hq5, hq6⟩ := place HD.out hlt hj0
          rw [← HN.out] at hq5
          have HPQ := hideP e2
          clear e1 e2
          obtain ⟨y, hy⟩ : ∃ y, y = t.s i j0 := ⟨_, rfl⟩
          obtain ⟨ei, hei⟩ : ∃ y, y = t.e i := ⟨_, rfl⟩
          obtain ⟨yd, hyd⟩ : ∃ z, z = mulR y dd := ⟨_, rfl⟩
          obtain ⟨ec, hec⟩ : ∃ z, z = mulR ei cc := ⟨_, rfl⟩
          obtain ⟨sn, hsn⟩ : ∃ z, z = subR yd ec := ⟨_, rfl⟩
          obtain ⟨yx, hyx⟩ : ∃ z, z = mulR y x := ⟨_, rfl⟩
          obtain ⟨en, hen⟩ : ∃ z, z = addR ei yx := ⟨_, rfl⟩
          have HSNQ := hideP (show sO kdF t.a x (t.s i j0) (t.e i) = sn from by rw [hsn, hyd, hec, hy, hei, HDD.out, HCCQ.out, HAV.out]; rfl)
          have HENQ := hideP (show kdF.add (t.e i) (kdF.mul (t.s i j0) x) = en from by rw [hen, hyx, hy, hei]; rfl)
          have HEIQ := hideP hei
          have AT := hideP (fun u (hu : Bl wr u) => by have := mAtF n n (some ⟨g, 0, none⟩) N cap (partS kdF j0 i x t) u ⟨HD.out, HN.out, (HR.out.later hu).rw.q⟩ i j0 hlt hj0; rw [partS_at, ← hy] at this; exact this)
          have HYD := hideP (fun u => by have := rmul_any y dd u; rw [← hyd] at this; exact this)
          have HEC := hideP (fun u => by have := rmul_any ei cc u; rw [← hec] at this; exact this)
          have HSN := hideP (fun u => by have := rsub_any yd ec u; rw [← hsn] at this; exact this)
          have HYX := hideP (fun u => by have := rmul_any y x u; rw [← hyx] at this; exact this)
          have HEN := hideP (fun u => by have := radd_any ei yx u; rw [← hen] at this; exact this)
          have HYQ := hideP hy
          clear hy hei hyd hec hsn hyx hen
          obtain ⟨m0', m1', m2', _, _, _, _⟩ := id mb
          go_wp2_with fail
          refine (AT.out _ (Bl.refl _)).mono ?_
          rintro e w7 ⟨rfl, h7⟩
          clear m0' m1' m2'
          obtain ⟨W7, hW7⟩ : ∃ W7, W7 = w7.alloc (.cells #[.int .i64 y.n, .int .i64 y.d, .bool y.bad] 34) := ⟨_, rfl⟩
          have b7 : Bl w7 W7 := by rw [hW7]; exact (Bl.refl _).alloc _
          have ky7 : FBox W7 w7.heap.size y := by rw [hW7]; exact FBox.new w7 y _
          have b7r : Bl wr W7 := h7.trans b7
          have hgl7 : g < w7.heap.size := Nat.lt_of_lt_of_le HR.out.glt h7.size
          have bt7 : But (fun b => b = g ∨ b = ge) w5 W7 := bt.trans (But.of_bl b7r)
          have km7 := mb.later b7r
          have kw7 : FBox W7 (w.heap.size + 1) x := ((kw.later b5).but bt (by have := hglt; have := hgelt; omega)).later b7r
          have kd7 : FBox W7 b12 dd := ((kd.later b35).but bt (by have := hglt; have := hgelt; have := lt12; omega)).later b7r
          have kc7 : FBox W7 b13' cc := (kc.but bt (by have := hglt; have := hgelt; have := lt13; have := b3.size; omega)).later b7r
          have HR7 := hideP (HR.out.later b7r)
          have HE7 := hideP (HE.out.later b7r)
          have hgl : g < W7.heap.size := HR7.out.glt
          have hgel : ge < W7.heap.size := HE7.out.glt
          have bws : w.heap.size + 1 + 1 + 1 + 1 ≤ w5.heap.size := by have := (b05.trans b5).size; omega
          have CG := hideP (show ∀ j u, (cellsF y)[j]? = some u → W7.cell? ⟨g, q * 3 + j, none⟩ = some u from fun j u hu => by
            obtain ⟨g', c', e, _, _, _, _, hc⟩ := HR7.out
            cases e
            exact hc q y (by rw [HPQ.out, mk_get _ hlt hj0, partS_at, HYQ.out]) j u hu)
          have FG := hideP (show ∀ j, W7.frozen? ⟨g, j, none⟩ = false from fun j => by
            obtain ⟨g', c', e, _, _, _, hf, _⟩ := HR7.out
            cases e
            exact hf j)
          have CE := hideP (show ∀ j u, (cellsF ei)[j]? = some u → W7.cell? ⟨ge, i * 3 + j, none⟩ = some u from fun j u hu => by
            obtain ⟨g', c', e, _, _, _, _, hc⟩ := HE7.out
            simp only [Value.slice.injEq, Option.some.injEq, Addr.mk.injEq] at e
            obtain ⟨⟨rfl, _⟩, _, rfl⟩ := e
            exact hc i ei (by rw [linJ_get _ hlt, partE_at, HEIQ.out]) j u hu)
          have WA : IntKind.i64.wrap (a : Int) = a := wrapS7 (by omega) (by have := HD.out.lt; have := HN.out; omega)
          have WQ : IntKind.i64.wrap (q : Int) = q := wrapS7 (by omega) (by have := HD.out.lt; have := HN.out; omega)
          have HW7 := hideP hW7
          clear hW7
          go_wp2_with fail
          rw [← HW7.out]
          refine (wpIn_wide (n := 8)).1 (region_q fm [some 49, some 50, some 51, some 52, some 53, some 54, some 55, some 56, some 57, some 58, some 59, some 60, some 61, some 62, some 63, some 64, some 65, some 66, some 67, some 68, some 69, some 70, none] (fun _ => false) 22 (by kernel_rfl) (by rfl)
              (fun j v u => match j with | 0 => v = .pointer (some ⟨w.heap.size, 2, none⟩) | 1 => v = .slice (some ⟨g, 0, none⟩) N cap | 2 => v = .int .i64 i | 3 => v = .pointer (some ⟨w.heap.size, 1, none⟩) | 4 => v = .int .i64 n | 5 => v = .int .i64 a | 6 => v = .int .i64 j0 | 7 => v = .int .i64 q | 8 => v = frV y | 9 => v = .iface 34 (frV y) | 10 => v = frV dd | 11 => v = frV yd | 12 => v = .iface 34 (frV yd) | 13 => v = .slice (some ⟨ge, 0, none⟩) n ce | 14 => v = .int .i64 i | 15 => v = .pointer (some ⟨ge, i * 3, none⟩) | 16 => v = frV ei | 17 => v = .iface 34 (frV ei) | 18 => v = frV cc | 19 => v = frV ec | 20 => v = frV sn | 21 => v = .pointer (some ⟨g, q * 3, none⟩) | _ => False)
              (fun j v u u' _ h => h) (fun vs u0 u => u = u0.setCells g (q * 3) (cellsF sn)) ?step ?still ?store ?fin)
          case step =>
            intro j o t act u ho hdt hpu hsz hu hfr hin
            have hj : j < 23 := (Array.getElem?_eq_some_iff.1 ho).1
            obtain ⟨m0, m1, m2, _, _, _, _⟩ := km7.later hu
            have ee0 : u.cell? ⟨ge, i * 3, none⟩ = some (.int .i64 ei.n) := (bl_cell hu _ _ hgel).trans (CE.out 0 _ rfl)
            have ee1 : u.cell? ⟨ge, i * 3 + 1, none⟩ = some (.int .i64 ei.d) := (bl_cell hu _ _ hgel).trans (CE.out 1 _ rfl)
            have ee2 : u.cell? ⟨ge, i * 3 + 2, none⟩ = some (.bool ei.bad) := (bl_cell hu _ _ hgel).trans (CE.out 2 _ rfl)
            have gg0 : u.cell? ⟨g, q * 3, none⟩ = some (.int .i64 y.n) := (bl_cell hu _ _ hgl).trans (CG.out 0 _ rfl)
            have fg0 : u.frozen? ⟨g, q * 3, none⟩ = false := (bl_froz hu _ _ hgl).trans (FG.out _)
            have gg1 : u.cell? ⟨g, q * 3 + 1, none⟩ = some (.int .i64 y.d) := (bl_cell hu _ _ hgl).trans (CG.out 1 _ rfl)
            have fg1 : u.frozen? ⟨g, q * 3 + 1, none⟩ = false := (bl_froz hu _ _ hgl).trans (FG.out _)
            have gg2 : u.cell? ⟨g, q * 3 + 2, none⟩ = some (.bool y.bad) := (bl_cell hu _ _ hgl).trans (CG.out 2 _ rfl)
            have fg2 : u.frozen? ⟨g, q * 3 + 2, none⟩ = false := (bl_froz hu _ _ hgl).trans (FG.out _)
            rcases (by omega : j = 0 ∨ j = 1 ∨ j = 2 ∨ j = 3 ∨ j = 4 ∨ j = 5 ∨ j = 6 ∨ j = 7 ∨ j = 8 ∨ j = 9 ∨ j = 10 ∨ j = 11 ∨ j = 12 ∨ j = 13 ∨ j = 14 ∨ j = 15 ∨ j = 16 ∨ j = 17 ∨ j = 18 ∨ j = 19 ∨ j = 20 ∨ j = 21 ∨ j = 22) with rfl | rfl | rfl | rfl | rfl | rfl | rfl | rfl | rfl | rfl | rfl | rfl | rfl | rfl | rfl | rfl | rfl | rfl | rfl | rfl | rfl | rfl | rfl
            · simp only [List.getElem?_toArray, List.getElem?_cons_zero, List.getElem?_cons_succ, Option.some.injEq] at ho
              subst ho
              obtain rfl := Option.some.inj hdt
              have i5 : act.eval (.tmp (5 : Nat)) = .pointer (some ⟨w.heap.size, 0, none⟩) := hfr 5 (by decide)
              exact plain_wp (by intro c h; cases h) (fun _ _ => trivial) (by simp only [execOp, i5, evalC, evalF, evalG]; simp [go_sem, m0, m1, m2]) ⟨_, rfl, rfl, Bl.refl _⟩
            · simp only [List.getElem?_toArray, List.getElem?_cons_zero, List.getElem?_cons_succ, Option.some.injEq] at ho
              subst ho
              obtain rfl := Option.some.inj hdt
              have i49 : (act.eval (.tmp (49 : Nat))) = .pointer (some ⟨w.heap.size, 2, none⟩) := hin ⟨0, .data⟩ (by simp) rfl 49 rfl
              exact plain_wp (by intro c h; cases h) (fun _ _ => trivial) (by simp only [execOp, i49, evalC, evalF, evalG]; simp [go_sem, m0, m1, m2]) ⟨_, rfl, rfl, Bl.refl _⟩
            · simp only [List.getElem?_toArray, List.getElem?_cons_zero, List.getElem?_cons_succ, Option.some.injEq] at ho
              subst ho
              obtain rfl := Option.some.inj hdt
              have i14 : act.eval (.tmp (14 : Nat)) = .int .i64 i := hfr 14 (by decide)
              exact plain_wp (by intro c h; cases h) (fun _ _ => trivial) (by simp only [execOp, i14, evalC, evalF, evalG]; simp [go_sem, m0]) ⟨_, rfl, rfl, Bl.refl _⟩
            · simp only [List.getElem?_toArray, List.getElem?_cons_zero, List.getElem?_cons_succ, Option.some.injEq] at ho
              subst ho
              obtain rfl := Option.some.inj hdt
              have i5 : act.eval (.tmp (5 : Nat)) = .pointer (some ⟨w.heap.size, 0, none⟩) := hfr 5 (by decide)
              exact plain_wp (by intro c h; cases h) (fun _ _ => trivial) (by simp only [execOp, i5, evalC, evalF, evalG]; simp [go_sem, m0, m1, m2]) ⟨_, rfl, rfl, Bl.refl _⟩
            · simp only [List.getElem?_toArray, List.getElem?_cons_zero, List.getElem?_cons_succ, Option.some.injEq] at ho
              subst ho
              obtain rfl := Option.some.inj hdt
              have i52 : (act.eval (.tmp (52 : Nat))) = .pointer (some ⟨w.heap.size, 1, none⟩) := hin ⟨3, .data⟩ (by simp) rfl 52 rfl
              exact plain_wp (by intro c h; cases h) (fun _ _ => trivial) (by simp only [execOp, i52, evalC, evalF, evalG]; simp [go_sem, m0, m1, m2]) ⟨_, rfl, rfl, Bl.refl _⟩
            · simp only [List.getElem?_toArray, List.getElem?_cons_zero, List.getElem?_cons_succ, Option.some.injEq] at ho
              subst ho
              obtain rfl := Option.some.inj hdt
              have i51 : (act.eval (.tmp (51 : Nat))) = .int .i64 i := hin ⟨2, .data⟩ (by simp) rfl 51 rfl
              have i53 : (act.eval (.tmp (53 : Nat))) = .int .i64 n := hin ⟨4, .data⟩ (by simp) rfl 53 rfl
              exact plain_wp (by intro c h; cases h) (fun _ _ => trivial) (by simp only [execOp, i51, i53, evalC, evalF, evalG]; simp [go_sem, hq1, WA]) ⟨_, rfl, rfl, Bl.refl _⟩
            · simp only [List.getElem?_toArray, List.getElem?_cons_zero, List.getElem?_cons_succ, Option.some.injEq] at ho
              subst ho
              obtain rfl := Option.some.inj hdt
              have i2 : act.eval (.tmp (2 : Nat)) = .int .i64 j0 := hfr 2 (by decide)
              exact plain_wp (by intro c h; cases h) (fun _ _ => trivial) (by simp only [execOp, i2, evalC, evalF, evalG]; simp [go_sem, m0]) ⟨_, rfl, rfl, Bl.refl _⟩
            · simp only [List.getElem?_toArray, List.getElem?_cons_zero, List.getElem?_cons_succ, Option.some.injEq] at ho
              subst ho
              obtain rfl := Option.some.inj hdt
              have i54 : (act.eval (.tmp (54 : Nat))) = .int .i64 a := hin ⟨5, .data⟩ (by simp) rfl 54 rfl
              have i55 : (act.eval (.tmp (55 : Nat))) = .int .i64 j0 := hin ⟨6, .data⟩ (by simp) rfl 55 rfl
              exact plain_wp (by intro c h; cases h) (fun _ _ => trivial) (by simp only [execOp, i54, i55, evalC, evalF, evalG]; simp [go_sem, hq3, WQ]) ⟨_, rfl, rfl, Bl.refl _⟩
            · simp only [List.getElem?_toArray, List.getElem?_cons_zero, List.getElem?_cons_succ, Option.some.injEq] at ho
              subst ho
              obtain rfl := Option.some.inj hdt
              have i15 : act.eval (.tmp (15 : Nat)) = .pointer (some ⟨w7.heap.size, 0, none⟩) := hfr 15 (by decide)
              obtain ⟨c0, c1, c2, f0, f1, f2, _⟩ := ky7.later hu
              exact plain_wp (by intro c h; cases h) (fun _ _ => trivial) (by simp only [execOp, i15, evalC, evalF, evalG]; simp [go_sem, c0, c1, c2]) ⟨_, rfl, rfl, Bl.refl _⟩
            · simp only [List.getElem?_toArray, List.getElem?_cons_zero, List.getElem?_cons_succ, Option.some.injEq] at ho
              subst ho
              obtain rfl := Option.some.inj hdt
              have i57 : (act.eval (.tmp (57 : Nat))) = frV y := hin ⟨8, .data⟩ (by simp) rfl 57 rfl
              exact plain_wp (by intro c h; cases h) (fun _ _ => trivial) (by simp only [execOp, i57, evalC, evalF, evalG]; simp [go_sem]) ⟨_, rfl, rfl, Bl.refl _⟩
            · simp only [List.getElem?_toArray, List.getElem?_cons_zero, List.getElem?_cons_succ, Option.some.injEq] at ho
              subst ho
              obtain rfl := Option.some.inj hdt
              have i12 : act.eval (.tmp (12 : Nat)) = .pointer (some ⟨b12, 0, none⟩) := hfr 12 (by decide)
              obtain ⟨c0, c1, c2, f0, f1, f2, _⟩ := kd7.later hu
              exact plain_wp (by intro c h; cases h) (fun _ _ => trivial) (by simp only [execOp, i12, evalC, evalF, evalG]; simp [go_sem, c0, c1, c2]) ⟨_, rfl, rfl, Bl.refl _⟩
            · simp only [List.getElem?_toArray, List.getElem?_cons_zero, List.getElem?_cons_succ, Option.some.injEq] at ho
              subst ho
              obtain rfl := Option.some.inj hdt
              have i58 : (act.eval (.tmp (58 : Nat))) = .iface 34 (frV y) := hin ⟨9, .data⟩ (by simp) rfl 58 rfl
              have i59 : (act.eval (.tmp (59 : Nat))) = frV dd := hin ⟨10, .data⟩ (by simp) rfl 59 rfl
              have iv := Tryz.mMulF
              refine enter_wp 187 #[frV y, frV dd] (by intro c h; cases h) (fun _ _ => trivial) (by simp only [execOp, evalC, evalF, evalG, resolve, i58, i59, List.map_toArray, List.map_cons, List.map_nil]; simp [invoke, iv, egM, Result.andThen, go_sem]) (by intro h; cases h) (callsIn_wide.2 (HYD.out u)) ?_
              rintro e w' ⟨rfl, hb⟩
              exact ⟨_, rfl, _, rfl, rfl, hb⟩
            · simp only [List.getElem?_toArray, List.getElem?_cons_zero, List.getElem?_cons_succ, Option.some.injEq] at ho
              subst ho
              obtain rfl := Option.some.inj hdt
              have i60 : (act.eval (.tmp (60 : Nat))) = frV yd := hin ⟨11, .data⟩ (by simp) rfl 60 rfl
              exact plain_wp (by intro c h; cases h) (fun _ _ => trivial) (by simp only [execOp, i60, evalC, evalF, evalG]; simp [go_sem]) ⟨_, rfl, rfl, Bl.refl _⟩
            · simp only [List.getElem?_toArray, List.getElem?_cons_zero, List.getElem?_cons_succ, Option.some.injEq] at ho
              subst ho
              obtain rfl := Option.some.inj hdt
              have i1 : act.eval (.tmp (1 : Nat)) = .slice (some ⟨ge, 0, none⟩) n ce := hfr 1 (by decide)
              exact plain_wp (by intro c h; cases h) (fun _ _ => trivial) (by simp only [execOp, i1, evalC, evalF, evalG]; simp [go_sem, m0]) ⟨_, rfl, rfl, Bl.refl _⟩
            · simp only [List.getElem?_toArray, List.getElem?_cons_zero, List.getElem?_cons_succ, Option.some.injEq] at ho
              subst ho
              obtain rfl := Option.some.inj hdt
              have i14 : act.eval (.tmp (14 : Nat)) = .int .i64 i := hfr 14 (by decide)
              exact plain_wp (by intro c h; cases h) (fun _ _ => trivial) (by simp only [execOp, i14, evalC, evalF, evalG]; simp [go_sem, m0]) ⟨_, rfl, rfl, Bl.refl _⟩
            · simp only [List.getElem?_toArray, List.getElem?_cons_zero, List.getElem?_cons_succ, Option.some.injEq] at ho
              subst ho
              obtain rfl := Option.some.inj hdt
              have i62 : (act.eval (.tmp (62 : Nat))) = .slice (some ⟨ge, 0, none⟩) n ce := hin ⟨13, .data⟩ (by simp) rfl 62 rfl
              have i63 : (act.eval (.tmp (63 : Nat))) = .int .i64 i := hin ⟨14, .data⟩ (by simp) rfl 63 rfl
              exact plain_wp (by intro c h; cases h) (fun _ _ => trivial) (by simp only [execOp, i62, i63, evalC, evalF, evalG]; simp [go_sem, hlt, ee0, ee1, ee2]) ⟨_, rfl, rfl, Bl.refl _⟩
            · simp only [List.getElem?_toArray, List.getElem?_cons_zero, List.getElem?_cons_succ, Option.some.injEq] at ho
              subst ho
              obtain rfl := Option.some.inj hdt
              have i64 : (act.eval (.tmp (64 : Nat))) = .pointer (some ⟨ge, i * 3, none⟩) := hin ⟨15, .data⟩ (by simp) rfl 64 rfl
              exact plain_wp (by intro c h; cases h) (fun _ _ => trivial) (by simp only [execOp, i64, evalC, evalF, evalG]; simp [go_sem, ee0, ee1, ee2]) ⟨_, rfl, rfl, Bl.refl _⟩
            · simp only [List.getElem?_toArray, List.getElem?_cons_zero, List.getElem?_cons_succ, Option.some.injEq] at ho
              subst ho
              obtain rfl := Option.some.inj hdt
              have i65 : (act.eval (.tmp (65 : Nat))) = frV ei := hin ⟨16, .data⟩ (by simp) rfl 65 rfl
              exact plain_wp (by intro c h; cases h) (fun _ _ => trivial) (by simp only [execOp, i65, evalC, evalF, evalG]; simp [go_sem]) ⟨_, rfl, rfl, Bl.refl _⟩
            · simp only [List.getElem?_toArray, List.getElem?_cons_zero, List.getElem?_cons_succ, Option.some.injEq] at ho
              subst ho
              obtain rfl := Option.some.inj hdt
              have i13 : act.eval (.tmp (13 : Nat)) = .pointer (some ⟨b13', 0, none⟩) := hfr 13 (by decide)
              obtain ⟨c0, c1, c2, f0, f1, f2, _⟩ := kc7.later hu
              exact plain_wp (by intro c h; cases h) (fun _ _ => trivial) (by simp only [execOp, i13, evalC, evalF, evalG]; simp [go_sem, c0, c1, c2]) ⟨_, rfl, rfl, Bl.refl _⟩
            · simp only [List.getElem?_toArray, List.getElem?_cons_zero, List.getElem?_cons_succ, Option.some.injEq] at ho
              subst ho
              obtain rfl := Option.some.inj hdt
              have i66 : (act.eval (.tmp (66 : Nat))) = .iface 34 (frV ei) := hin ⟨17, .data⟩ (by simp) rfl 66 rfl
              have i67 : (act.eval (.tmp (67 : Nat))) = frV cc := hin ⟨18, .data⟩ (by simp) rfl 67 rfl
              have iv := Tryz.mMulF
              refine enter_wp 187 #[frV ei, frV cc] (by intro c h; cases h) (fun _ _ => trivial) (by simp only [execOp, evalC, evalF, evalG, resolve, i66, i67, List.map_toArray, List.map_cons, List.map_nil]; simp [invoke, iv, egM, Result.andThen, go_sem]) (by intro h; cases h) (callsIn_wide.2 (HEC.out u)) ?_
              rintro e w' ⟨rfl, hb⟩
              exact ⟨_, rfl, _, rfl, rfl, hb⟩
            · simp only [List.getElem?_toArray, List.getElem?_cons_zero, List.getElem?_cons_succ, Option.some.injEq] at ho
              subst ho
              obtain rfl := Option.some.inj hdt
              have i61 : (act.eval (.tmp (61 : Nat))) = .iface 34 (frV yd) := hin ⟨12, .data⟩ (by simp) rfl 61 rfl
              have i68 : (act.eval (.tmp (68 : Nat))) = frV ec := hin ⟨19, .data⟩ (by simp) rfl 68 rfl
              have iv := Tryz.mSubF
              refine enter_wp 192 #[frV yd, frV ec] (by intro c h; cases h) (fun _ _ => trivial) (by simp only [execOp, evalC, evalF, evalG, resolve, i61, i68, List.map_toArray, List.map_cons, List.map_nil]; simp [invoke, iv, egS, Result.andThen, go_sem]) (by intro h; cases h) (callsIn_wide.2 (HSN.out u)) ?_
              rintro e w' ⟨rfl, hb⟩
              exact ⟨_, rfl, _, rfl, rfl, hb⟩
            · simp only [List.getElem?_toArray, List.getElem?_cons_zero, List.getElem?_cons_succ, Option.some.injEq] at ho
              subst ho
              obtain rfl := Option.some.inj hdt
              have i50 : (act.eval (.tmp (50 : Nat))) = .slice (some ⟨g, 0, none⟩) N cap := hin ⟨1, .data⟩ (by simp) rfl 50 rfl
              have i56 : (act.eval (.tmp (56 : Nat))) = .int .i64 q := hin ⟨7, .data⟩ (by simp) rfl 56 rfl
              exact plain_wp (by intro c h; cases h) (fun _ _ => trivial) (by simp only [execOp, i50, i56, evalC, evalF, evalG]; simp [go_sem, hq5, gg0, fg0, gg1, fg1, gg2, fg2]) ⟨_, rfl, rfl, Bl.refl _⟩
            · simp only [List.getElem?_toArray, List.getElem?_cons_zero, List.getElem?_cons_succ, Option.some.injEq] at ho
              subst ho
              cases hdt
          case still =>
            intro j o t act u0 u ho hdt hpu
            cases hpu
          case store =>
            intro o act u vs ho hsz hu hfr hin
            simp only [List.getElem?_toArray, List.getElem?_cons_zero, List.getElem?_cons_succ, Option.some.injEq] at ho
            subst ho
            obtain ⟨i69, k69⟩ : act.eval (.tmp (69 : Nat)) = vs 20 ∧ ((vs 20) = frV sn) := hin 20 69 rfl rfl
            obtain ⟨i70, k70⟩ : act.eval (.tmp (70 : Nat)) = vs 21 ∧ ((vs 21) = .pointer (some ⟨g, q * 3, none⟩)) := hin 21 70 rfl rfl
            have gg0 : u.cell? ⟨g, q * 3, none⟩ = some (.int .i64 y.n) := (bl_cell hu _ _ hgl).trans (CG.out 0 _ rfl)
            have fg0 : u.frozen? ⟨g, q * 3, none⟩ = false := (bl_froz hu _ _ hgl).trans (FG.out _)
            have gg1 : u.cell? ⟨g, q * 3 + 1, none⟩ = some (.int .i64 y.d) := (bl_cell hu _ _ hgl).trans (CG.out 1 _ rfl)
            have fg1 : u.frozen? ⟨g, q * 3 + 1, none⟩ = false := (bl_froz hu _ _ hgl).trans (FG.out _)
            have gg2 : u.cell? ⟨g, q * 3 + 2, none⟩ = some (.bool y.bad) := (bl_cell hu _ _ hgl).trans (CG.out 2 _ rfl)
            have fg2 : u.frozen? ⟨g, q * 3 + 2, none⟩ = false := (bl_froz hu _ _ hgl).trans (FG.out _)
            replace i70 := i70.trans k70
            replace i69 := i69.trans k69
            exact skip_wp (by intro c h; cases h) (fun _ _ => trivial) (by simp only [execOp, i70, i69]; simp [go_sem, gg0, fg0, gg1, fg1, gg2, fg2]; rfl) ⟨rfl, rfl⟩
          case fin =>
            intro vs vb u0 u hu hin hps
            have a0 := hin 0 49 rfl
            have a1 := hin 1 50 rfl
            have a2 := hin 2 51 rfl
            have a3 := hin 3 52 rfl
            have a4 := hin 4 53 rfl
            have a5 := hin 5 54 rfl
            have a6 := hin 6 55 rfl
            have a7 := hin 7 56 rfl
            have a8 := hin 8 57 rfl
            have a9 := hin 9 58 rfl
            have a10 := hin 10 59 rfl
            have a11 := hin 11 60 rfl
            have a12 := hin 12 61 rfl
            have a13 := hin 13 62 rfl
            have a14 := hin 14 63 rfl
            have a15 := hin 15 64 rfl
            have a16 := hin 16 65 rfl
            have a17 := hin 17 66 rfl
            have a18 := hin 18 67 rfl
            have a19 := hin 19 68 rfl
            have a20 := hin 20 69 rfl
            have a21 := hin 21 70 rfl
            simp only [putL, Act.put, List.setIfInBounds_toArray, List.set_cons_zero, List.set_cons_succ, Nat.zero_add, Nat.reduceAdd, Nat.reduceBEq, Bool.or_false, Bool.or_true, Bool.false_or, Bool.true_or, Bool.false_eq_true, if_false, if_true, reduceIte, Nat.reduceEqDiff, beq_self_eq_true, Bool.or_self] at a0 a1 a2 a3 a4 a5 a6 a7 a8 a9 a10 a11 a12 a13 a14 a15 a16 a17 a18 a19 a20 a21 ⊢
            rw [if_pos (by decide)] at hps
            simp only [a0, a1, a2, a3, a4, a5, a6, a7, a8, a9, a10, a11, a12, a13, a14, a15, a16, a17, a18, a19, a20, a21]
            have hq' : q < (mk n n (partS kdF j0 i x t)).length := by rw [mk_len, ← HN.out]; exact hq5
            have PUT := hideP ((HR7.out.later hu).putAt cellsF_len hq' sn)
            rw [HPQ.out, mk_put hlt hj0, ← HPQ.out, ← hps] at PUT
            obtain ⟨w8, hw8⟩ : ∃ w8, w8 = u := ⟨_, rfl⟩
            subst hw8
            have HS8 := hideP (show RwZ 3 cellsF w8 lo (.slice (some ⟨g, 0, none⟩) N cap) (mk n n (partS kdF j0 (i + 1) x t)) from by rw [partS_next kdF hji, HSNQ.out]; exact PUT.out)
            have HE8 := hideP (show RwZ 3 cellsF w8 lo (.slice (some ⟨ge, 0, none⟩) n ce) (linJ n (partE kdF j0 i x t)) from by rw [hps]; exact (HE7.out.later hu).but (S := fun b => b = g) (but_setCells (S := fun b => b = g) (b := g) rfl _ _ _ _ (But.refl _ _)) (fun b hb => by cases hb; exact fun e => hne e.symm))
            have bt78 : But (fun b => b = g) W7 w8 := by rw [hps]; exact (But.of_bl hu).trans (but_setCells (S := fun b => b = g) (b := g) rfl _ _ _ _ (But.refl _ _))
            have bt8 : But (fun b => b = g ∨ b = ge) w5 w8 := bt7.trans (bt78.mono fun _ h => .inl h)
            have kw8 : FBox w8 (w.heap.size + 1) x := kw7.but bt78 (by have := hglt; have := bws; omega)
            have ky8 : FBox w8 w7.heap.size y := ky7.but bt78 (by have := hgl7; omega)
            have CE8 := hideP (show ∀ j u, (cellsF ei)[j]? = some u → w8.cell? ⟨ge, i * 3 + j, none⟩ = some u from fun j u hu => by
              obtain ⟨g', c', e, _, _, _, _, hc⟩ := HE8.out
              simp only [Value.slice.injEq, Option.some.injEq, Addr.mk.injEq] at e
              obtain ⟨⟨rfl, _⟩, _, rfl⟩ := e
              exact hc i ei (by rw [linJ_get _ hlt, partE_at, HEIQ.out]) j u hu)
            have FE8 := hideP (show ∀ j, w8.frozen? ⟨ge, j, none⟩ = false from fun j => by
              obtain ⟨g', c', e, _, _, _, hf, _⟩ := HE8.out
              simp only [Value.slice.injEq, Option.some.injEq, Addr.mk.injEq] at e
              obtain ⟨⟨rfl, _⟩, _, rfl⟩ := e
              exact hf j)
            have hgel8 : ge < w8.heap.size := HE8.out.glt
            clear hps hu PUT CE FG CG km7 kd7 kc7 kw7 ky7
            go_wp2_with fail
            refine (wpIn_wide (n := 8)).1 (region_q fm [some 71, some 72, some 73, some 74, some 75, some 76, some 77, some 78, some 79, some 80, some 81, some 82, some 83, none] (fun _ => false) 13 (by kernel_rfl) (by rfl)
                      (fun j v u => match j with | 0 => v = .slice (some ⟨ge, 0, none⟩) n ce | 1 => v = .int .i64 i | 2 => v = .slice (some ⟨ge, 0, none⟩) n ce | 3 => v = .int .i64 i | 4 => v = .pointer (some ⟨ge, i * 3, none⟩) | 5 => v = frV ei | 6 => v = .iface 34 (frV ei) | 7 => v = frV y | 8 => v = .iface 34 (frV y) | 9 => v = frV x | 10 => v = frV yx | 11 => v = frV en | 12 => v = .pointer (some ⟨ge, i * 3, none⟩) | _ => False)
                      (fun j v u u' _ h => h) (fun vs u0 u => u = u0.setCells ge (i * 3) (cellsF en)) ?step ?still ?store ?fin)
            case step =>
              intro j o t act u ho hdt hpu hsz hu hfr hin
              have hj : j < 14 := (Array.getElem?_eq_some_iff.1 ho).1
              have ee0 : u.cell? ⟨ge, i * 3, none⟩ = some (.int .i64 ei.n) := (bl_cell hu _ _ hgel8).trans (CE8.out 0 _ rfl)
              have fe0 : u.frozen? ⟨ge, i * 3, none⟩ = false := (bl_froz hu _ _ hgel8).trans (FE8.out _)
              have ee1 : u.cell? ⟨ge, i * 3 + 1, none⟩ = some (.int .i64 ei.d) := (bl_cell hu _ _ hgel8).trans (CE8.out 1 _ rfl)
              have fe1 : u.frozen? ⟨ge, i * 3 + 1, none⟩ = false := (bl_froz hu _ _ hgel8).trans (FE8.out _)
              have ee2 : u.cell? ⟨ge, i * 3 + 2, none⟩ = some (.bool ei.bad) := (bl_cell hu _ _ hgel8).trans (CE8.out 2 _ rfl)
              have fe2 : u.frozen? ⟨ge, i * 3 + 2, none⟩ = false := (bl_froz hu _ _ hgel8).trans (FE8.out _)
              rcases (by omega : j = 0 ∨ j = 1 ∨ j = 2 ∨ j = 3 ∨ j = 4 ∨ j = 5 ∨ j = 6 ∨ j = 7 ∨ j = 8 ∨ j = 9 ∨ j = 10 ∨ j = 11 ∨ j = 12 ∨ j = 13) with rfl | rfl | rfl | rfl | rfl | rfl | rfl | rfl | rfl | rfl | rfl | rfl | rfl | rfl
              · simp only [List.getElem?_toArray, List.getElem?_cons_zero, List.getElem?_cons_succ, Option.some.injEq] at ho
                subst ho
                obtain rfl := Option.some.inj hdt
                have i1 : act.eval (.tmp (1 : Nat)) = .slice (some ⟨ge, 0, none⟩) n ce := hfr 1 (by decide)
                exact plain_wp (by intro c h; cases h) (fun _ _ => trivial) (by simp only [execOp, i1, evalC, evalF, evalG]; simp [go_sem, hlt]) ⟨_, rfl, rfl, Bl.refl _⟩
              · simp only [List.getElem?_toArray, List.getElem?_cons_zero, List.getElem?_cons_succ, Option.some.injEq] at ho
                subst ho
                obtain rfl := Option.some.inj hdt
                have i14 : act.eval (.tmp (14 : Nat)) = .int .i64 i := hfr 14 (by decide)
                exact plain_wp (by intro c h; cases h) (fun _ _ => trivial) (by simp only [execOp, i14, evalC, evalF, evalG]; simp [go_sem, hlt]) ⟨_, rfl, rfl, Bl.refl _⟩
              · simp only [List.getElem?_toArray, List.getElem?_cons_zero, List.getElem?_cons_succ, Option.some.injEq] at ho
                subst ho
                obtain rfl := Option.some.inj hdt
                have i1 : act.eval (.tmp (1 : Nat)) = .slice (some ⟨ge, 0, none⟩) n ce := hfr 1 (by decide)
                exact plain_wp (by intro c h; cases h) (fun _ _ => trivial) (by simp only [execOp, i1, evalC, evalF, evalG]; simp [go_sem, hlt]) ⟨_, rfl, rfl, Bl.refl _⟩
              · simp only [List.getElem?_toArray, List.getElem?_cons_zero, List.getElem?_cons_succ, Option.some.injEq] at ho
                subst ho
                obtain rfl := Option.some.inj hdt
                have i14 : act.eval (.tmp (14 : Nat)) = .int .i64 i := hfr 14 (by decide)
                exact plain_wp (by intro c h; cases h) (fun _ _ => trivial) (by simp only [execOp, i14, evalC, evalF, evalG]; simp [go_sem, hlt]) ⟨_, rfl, rfl, Bl.refl _⟩
              · simp only [List.getElem?_toArray, List.getElem?_cons_zero, List.getElem?_cons_succ, Option.some.injEq] at ho
                subst ho
                obtain rfl := Option.some.inj hdt
                have i73 : (act.eval (.tmp (73 : Nat))) = .slice (some ⟨ge, 0, none⟩) n ce := hin ⟨2, .data⟩ (by simp) rfl 73 rfl
                have i74 : (act.eval (.tmp (74 : Nat))) = .int .i64 i := hin ⟨3, .data⟩ (by simp) rfl 74 rfl
                exact plain_wp (by intro c h; cases h) (fun _ _ => trivial) (by simp only [execOp, i73, i74, evalC, evalF, evalG]; simp [go_sem, hlt, ee0, ee1, ee2]) ⟨_, rfl, rfl, Bl.refl _⟩
              · simp only [List.getElem?_toArray, List.getElem?_cons_zero, List.getElem?_cons_succ, Option.some.injEq] at ho
                subst ho
                obtain rfl := Option.some.inj hdt
                have i75 : (act.eval (.tmp (75 : Nat))) = .pointer (some ⟨ge, i * 3, none⟩) := hin ⟨4, .data⟩ (by simp) rfl 75 rfl
                exact plain_wp (by intro c h; cases h) (fun _ _ => trivial) (by simp only [execOp, i75, evalC, evalF, evalG]; simp [go_sem, ee0, ee1, ee2]) ⟨_, rfl, rfl, Bl.refl _⟩
              · simp only [List.getElem?_toArray, List.getElem?_cons_zero, List.getElem?_cons_succ, Option.some.injEq] at ho
                subst ho
                obtain rfl := Option.some.inj hdt
                have i76 : (act.eval (.tmp (76 : Nat))) = frV ei := hin ⟨5, .data⟩ (by simp) rfl 76 rfl
                exact plain_wp (by intro c h; cases h) (fun _ _ => trivial) (by simp only [execOp, i76, evalC, evalF, evalG]; simp [go_sem]) ⟨_, rfl, rfl, Bl.refl _⟩
              · simp only [List.getElem?_toArray, List.getElem?_cons_zero, List.getElem?_cons_succ, Option.some.injEq] at ho
                subst ho
                obtain rfl := Option.some.inj hdt
                have i15 : act.eval (.tmp (15 : Nat)) = .pointer (some ⟨w7.heap.size, 0, none⟩) := hfr 15 (by decide)
                obtain ⟨c0, c1, c2, f0, f1, f2, _⟩ := ky8.later hu
                exact plain_wp (by intro c h; cases h) (fun _ _ => trivial) (by simp only [execOp, i15, evalC, evalF, evalG]; simp [go_sem, c0, c1, c2]) ⟨_, rfl, rfl, Bl.refl _⟩
              · simp only [List.getElem?_toArray, List.getElem?_cons_zero, List.getElem?_cons_succ, Option.some.injEq] at ho
                subst ho
                obtain rfl := Option.some.inj hdt
                have i78 : (act.eval (.tmp (78 : Nat))) = frV y := hin ⟨7, .data⟩ (by simp) rfl 78 rfl
                exact plain_wp (by intro c h; cases h) (fun _ _ => trivial) (by simp only [execOp, i78, evalC, evalF, evalG]; simp [go_sem]) ⟨_, rfl, rfl, Bl.refl _⟩
              · simp only [List.getElem?_toArray, List.getElem?_cons_zero, List.getElem?_cons_succ, Option.some.injEq] at ho
                subst ho
                obtain rfl := Option.some.inj hdt
                have i8 : act.eval (.tmp (8 : Nat)) = .pointer (some ⟨w.heap.size + 1, 0, none⟩) := hfr 8 (by decide)
                obtain ⟨c0, c1, c2, f0, f1, f2, _⟩ := kw8.later hu
                exact plain_wp (by intro c h; cases h) (fun _ _ => trivial) (by simp only [execOp, i8, evalC, evalF, evalG]; simp [go_sem, c0, c1, c2]) ⟨_, rfl, rfl, Bl.refl _⟩
              · simp only [List.getElem?_toArray, List.getElem?_cons_zero, List.getElem?_cons_succ, Option.some.injEq] at ho
                subst ho
                obtain rfl := Option.some.inj hdt
                have i79 : (act.eval (.tmp (79 : Nat))) = .iface 34 (frV y) := hin ⟨8, .data⟩ (by simp) rfl 79 rfl
                have i80 : (act.eval (.tmp (80 : Nat))) = frV x := hin ⟨9, .data⟩ (by simp) rfl 80 rfl
                have iv := Tryz.mMulF
                refine enter_wp 187 #[frV y, frV x] (by intro c h; cases h) (fun _ _ => trivial) (by simp only [execOp, evalC, evalF, evalG, resolve, i79, i80, List.map_toArray, List.map_cons, List.map_nil]; simp [invoke, iv, egM, Result.andThen, go_sem]) (by intro h; cases h) (callsIn_wide.2 (HYX.out u)) ?_
                rintro e w' ⟨rfl, hb⟩
                exact ⟨_, rfl, _, rfl, rfl, hb⟩
              · simp only [List.getElem?_toArray, List.getElem?_cons_zero, List.getElem?_cons_succ, Option.some.injEq] at ho
                subst ho
                obtain rfl := Option.some.inj hdt
                have i77 : (act.eval (.tmp (77 : Nat))) = .iface 34 (frV ei) := hin ⟨6, .data⟩ (by simp) rfl 77 rfl
                have i81 : (act.eval (.tmp (81 : Nat))) = frV yx := hin ⟨10, .data⟩ (by simp) rfl 81 rfl
                have iv := Tryz.mAddF
                refine enter_wp 184 #[frV ei, frV yx] (by intro c h; cases h) (fun _ _ => trivial) (by simp only [execOp, evalC, evalF, evalG, resolve, i77, i81, List.map_toArray, List.map_cons, List.map_nil]; simp [invoke, iv, egA, Result.andThen, go_sem]) (by intro h; cases h) (callsIn_wide.2 (HEN.out u)) ?_
                rintro e w' ⟨rfl, hb⟩
                exact ⟨_, rfl, _, rfl, rfl, hb⟩
              · simp only [List.getElem?_toArray, List.getElem?_cons_zero, List.getElem?_cons_succ, Option.some.injEq] at ho
                subst ho
                obtain rfl := Option.some.inj hdt
                have i71 : (act.eval (.tmp (71 : Nat))) = .slice (some ⟨ge, 0, none⟩) n ce := hin ⟨0, .data⟩ (by simp) rfl 71 rfl
                have i72 : (act.eval (.tmp (72 : Nat))) = .int .i64 i := hin ⟨1, .data⟩ (by simp) rfl 72 rfl
                exact plain_wp (by intro c h; cases h) (fun _ _ => trivial) (by simp only [execOp, i71, i72, evalC, evalF, evalG]; simp [go_sem, hlt, ee0, ee1, ee2]) ⟨_, rfl, rfl, Bl.refl _⟩
              · simp only [List.getElem?_toArray, List.getElem?_cons_zero, List.getElem?_cons_succ, Option.some.injEq] at ho
                subst ho
                cases hdt
            case still =>
              intro j o t act u0 u ho hdt hpu
              cases hpu
            case store =>
              intro o act u vs ho hsz hu hfr hin
              simp only [List.getElem?_toArray, List.getElem?_cons_zero, List.getElem?_cons_succ, Option.some.injEq] at ho
              subst ho
              obtain ⟨i82, k82⟩ : act.eval (.tmp (82 : Nat)) = vs 11 ∧ ((vs 11) = frV en) := hin 11 82 rfl rfl
              obtain ⟨i83, k83⟩ : act.eval (.tmp (83 : Nat)) = vs 12 ∧ ((vs 12) = .pointer (some ⟨ge, i * 3, none⟩)) := hin 12 83 rfl rfl
              have ee0 : u.cell? ⟨ge, i * 3, none⟩ = some (.int .i64 ei.n) := (bl_cell hu _ _ hgel8).trans (CE8.out 0 _ rfl)
              have fe0 : u.frozen? ⟨ge, i * 3, none⟩ = false := (bl_froz hu _ _ hgel8).trans (FE8.out _)
              have ee1 : u.cell? ⟨ge, i * 3 + 1, none⟩ = some (.int .i64 ei.d) := (bl_cell hu _ _ hgel8).trans (CE8.out 1 _ rfl)
              have fe1 : u.frozen? ⟨ge, i * 3 + 1, none⟩ = false := (bl_froz hu _ _ hgel8).trans (FE8.out _)
              have ee2 : u.cell? ⟨ge, i * 3 + 2, none⟩ = some (.bool ei.bad) := (bl_cell hu _ _ hgel8).trans (CE8.out 2 _ rfl)
              have fe2 : u.frozen? ⟨ge, i * 3 + 2, none⟩ = false := (bl_froz hu _ _ hgel8).trans (FE8.out _)
              replace i83 := i83.trans k83
              replace i82 := i82.trans k82
              exact skip_wp (by intro c h; cases h) (fun _ _ => trivial) (by simp only [execOp, i83, i82]; simp [go_sem, ee0, fe0, ee1, fe1, ee2, fe2]; rfl) ⟨rfl, rfl⟩
            case fin =>
              intro vs vb u0 u hu hin hps
              have a0 := hin 0 71 rfl
              have a1 := hin 1 72 rfl
              have a2 := hin 2 73 rfl
              have a3 := hin 3 74 rfl
              have a4 := hin 4 75 rfl
              have a5 := hin 5 76 rfl
              have a6 := hin 6 77 rfl
              have a7 := hin 7 78 rfl
              have a8 := hin 8 79 rfl
              have a9 := hin 9 80 rfl
              have a10 := hin 10 81 rfl
              have a11 := hin 11 82 rfl
              have a12 := hin 12 83 rfl
              simp only [putL, Act.put, List.setIfInBounds_toArray, List.set_cons_zero, List.set_cons_succ, Nat.zero_add, Nat.reduceAdd, Nat.reduceBEq, Bool.or_false, Bool.or_true, Bool.false_or, Bool.true_or, Bool.false_eq_true, if_false, if_true, reduceIte, Nat.reduceEqDiff, beq_self_eq_true, Bool.or_self] at a0 a1 a2 a3 a4 a5 a6 a7 a8 a9 a10 a11 a12 ⊢
              rw [if_pos (by decide)] at hps
              simp only [a0, a1, a2, a3, a4, a5, a6, a7, a8, a9, a10, a11, a12]
              have hie : i < (linJ n (partE kdF j0 i x t)).length := by rw [linJ_len]; exact hlt
              have PUT9 := hideP ((HE8.out.later hu).putAt cellsF_len hie en)
              rw [linJ_set9F _ hlt, ← hps] at PUT9
              have HS9 := hideP (show RwZ 3 cellsF u lo (.slice (some ⟨g, 0, none⟩) N cap) (mk n n (partS kdF j0 (i + 1) x t)) from by rw [hps]; exact (HS8.out.later hu).but (S := fun b => b = ge) (but_setCells (S := fun b => b = ge) (b := ge) rfl _ _ _ _ (But.refl _ _)) (fun b hb => by cases hb; exact hne))
              have bt9 : But (fun b => b = g ∨ b = ge) w5 u := by rw [hps]; exact bt8.trans ((But.of_bl hu).trans ((but_setCells (S := fun b => b = ge) (b := ge) rfl _ _ _ _ (But.refl _ _)).mono fun _ h => .inr h))
              clear hps hu
              go_wp2
              go_roundw
              case rel => exact ⟨i + 1, by simp, by omega, by omega, HS9.out, by rw [show partE kdF j0 (i + 1) x t = fun r => if r = i then en else partE kdF j0 i x t r from by funext r; rw [partE_next kdF hji, HENQ.out]]; exact PUT9.out, bt9⟩
              case measure => simp [intOf]; omega
        · obtain rfl : i = n := by omega
          obtain ⟨m0', m1', m2', _, _, _, _⟩ := id mb
          have kb9 : FBox wr b11 bb := (kb.later b15').but bt (by have := hglt; have := hgelt; have := lt11; omega)
          have kz9 : FBox wr (w.heap.size + 1 + 1 + 1) zeroR := (kz.later b5).but bt (by have := hglt; have := hgelt; omega)
          obtain ⟨c0, c1, c2, f0, f1, f2, _⟩ := id kb9
          obtain ⟨d0, d1, d2, g0, g1, g2, _⟩ := id kz9
          go_wp2
          simp [bodyPost, results, Tryz.results115, go_sem, c0, c1, c2, f0, f1, f2, d0, d1, d2, g0, g1, g2]
          exact ⟨HR.out.but (butRF _ _ _ _ _) (fun b hb => by cases hb; show ¬ g = w.heap.size + 1 + 1 + 1; omega), HE.out.but (butRF _ _ _ _ _) (fun b hb => by cases hb; show ¬ ge = w.heap.size + 1 + 1 + 1; omega), ((But.of_bl (b0.trans b5)).trans bt).put (butRF _ _ _ _ _) (by omega)⟩
end Go.Proofs.YtljmggemdkfbiaaGreat
