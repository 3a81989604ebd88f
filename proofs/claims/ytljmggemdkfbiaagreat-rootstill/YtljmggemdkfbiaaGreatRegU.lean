/- A region that draws its order: operations that read, or lay blocks; then a call; of the three that it tells two are stored in new blocks, each of its own. -/
import Derived.Test.YtljmggemdkfbiaaGreatRegR
namespace Go.Proofs.YtljmggemdkfbiaaGreat
open Go.RowKit
set_option linter.unusedSimpArgs false
set_option linter.unusedVariables false

/-- Operation i waits for operation j. -/
def edgeB (ops : Array Oper) (i j : Nat) : Bool := match ops[i]? with
  | none => false
  | some o => o.after.any fun e => (e.on == j) && Region.binds .any e
theorem edge_of {ops : Array Oper} {i j : Nat} (h : edgeB ops i j = true) : ∃ (o : Oper) (e : Edge), ops[i]? = some o ∧ e ∈ o.after ∧ e.on = j ∧ Region.binds .any e = true := by
  unfold edgeB at h
  cases ho : ops[i]? with
  | none => rw [ho] at h; cases h
  | some o =>
    rw [ho] at h
    simp only [Array.any_eq_true'] at h
    obtain ⟨e, he, hb⟩ := h
    simp only [Bool.and_eq_true, beq_iff_eq] at hb
    exact ⟨o, e, rfl, he, hb.1, hb.2⟩
/-- What must hold of the operations, by reckoning: k is the call's number. -/
def wellU (ops : Array Oper) (ds : List (Option Nat)) (k : Nat) : Bool :=
  lowB2 ops && onceB ds && (ds.length == ops.size) && (ops.size == k + 10) && ((List.range ops.size).all fun j => match ops[j]? with
    | none => true
    | some o => o.guard.isNone && (ds[j]? == some o.dst)) && ((List.range k).all fun j => (List.range (k + 1)).any fun i => decide (j < i) && edgeB ops i j)
    && ((List.range k).all fun j => match ds[j]? with
      | some (some _) => true
      | _ => false) && edgeB ops (k + 1) k && edgeB ops (k + 2) (k + 1) && edgeB ops (k + 3) (k + 1) && edgeB ops (k + 4) (k + 1) && edgeB ops (k + 7) (k + 5) && edgeB ops (k + 7) (k + 2) && edgeB ops (k + 8) (k + 6) && edgeB ops (k + 8) (k + 3) && edgeB ops (k + 8) (k + 7) && edgeB ops (k + 9) (k + 4)
/-- What the call tells, and what becomes of it. -/
structure Upd (δ : Type) where
  v0 : δ → Value
  v1 : δ → Value
  v2 : δ → Value
  dat : δ → World → Prop
  off : δ → Nat → Prop
  za : World → Nat → Prop
  zb : World → Nat → Prop
  sa : δ → World → Nat → Prop
  sb : δ → World → Nat → Prop
structure UpdOk {δ : Type} (U : Upd δ) : Prop where
  dat_bl : ∀ D u u', U.dat D u → Bl u u' → U.dat D u'
  dat_off : ∀ D u b, U.dat D u → u.heap.size ≤ b → U.off D b
  za_heap : ∀ u u' b, U.za u b → b < u.heap.size → u'.heap[b]? = u.heap[b]? → u.heap.size ≤ u'.heap.size → U.za u' b
  zb_heap : ∀ u u' b, U.zb u b → b < u.heap.size → u'.heap[b]? = u.heap[b]? → u.heap.size ≤ u'.heap.size → U.zb u' b
  sa_heap : ∀ D u u' b, U.sa D u b → b < u.heap.size → u'.heap[b]? = u.heap[b]? → u.heap.size ≤ u'.heap.size → U.sa D u' b
  sb_heap : ∀ D u u' b, U.sb D u b → b < u.heap.size → u'.heap[b]? = u.heap[b]? → u.heap.size ≤ u'.heap.size → U.sb D u' b
  ne0 : ∀ u b, U.za u b → U.zb u b → False
  ne1 : ∀ D u b, U.za u b → U.sb D u b → False
  ne2 : ∀ D u b, U.sa D u b → U.zb u b → False
/-- Between two of the operations. -/
structure IU {δ : Type} (U : Upd δ) (W : World) (a : Act) (ops : Array Oper) (ds : List (Option Nat)) (k t0 tm d0 d1 d2 dA dB dC : Nat) (facts : Nat → Value → World → Prop) (L : Nat → Bool) (act : Act) (u : World) : Prop where
  size : act.tmps.size = a.tmps.size
  defers : act.defers = a.defers
  frame : ∀ t, (∀ j, L j = true → ds[j]? ≠ some (some t)) → act.eval (.tmp t) = a.eval (.tmp t)
  shut : ∀ (j : Nat) (o : Oper), ops[j]? = some o → L j = true → ∀ e ∈ o.after, Region.binds .any e = true → L e.on = true
  bl : Bl W u
  pre : L k = false → ∀ j t, j < k → L j = true → ds[j]? = some (some t) → facts j (act.eval (.tmp t)) u
  A : L (k + 5) = true → ∃ b, act.eval (.tmp dA) = .pointer (some ⟨b, 0, none⟩) ∧ W.heap.size ≤ b ∧ b < u.heap.size ∧ (L (k + 7) = false → U.za u b)
  B : L (k + 6) = true → ∃ b, act.eval (.tmp dB) = .pointer (some ⟨b, 0, none⟩) ∧ W.heap.size ≤ b ∧ b < u.heap.size ∧ (L (k + 8) = false → U.zb u b)
  post : L k = true → ∃ D, act.eval (.tmp t0) = .tuple #[U.v0 D, U.v1 D, U.v2 D] ∧ U.dat D u ∧ (L (k + 1) = true → act.eval (.tmp tm) = .tuple #[U.v0 D, U.v1 D, U.v2 D])
    ∧ (L (k + 2) = true → act.eval (.tmp d0) = U.v0 D) ∧ (L (k + 3) = true → act.eval (.tmp d1) = U.v1 D) ∧ (L (k + 4) = true → act.eval (.tmp d2) = U.v2 D) ∧ (L (k + 9) = true → act.eval (.tmp dC) = U.v2 D)
    ∧ (L (k + 5) = true → ∀ b, act.eval (.tmp dA) = .pointer (some ⟨b, 0, none⟩) → U.off D b ∧ (L (k + 7) = true → U.sa D u b))
    ∧ (L (k + 6) = true → ∀ b, act.eval (.tmp dB) = .pointer (some ⟨b, 0, none⟩) → U.off D b ∧ (L (k + 8) = true → U.sb D u b))
theorem put_other {ds : List (Option Nat)} (ho : onceB ds = true) {i j t t' : Nat} (hi : ds[i]? = some (some t)) (hj : ds[j]? = some (some t')) (hne : j ≠ i) (v : Value) (act : Act) : (act.put (some t) v).eval (.tmp t') = act.eval (.tmp t') :=
  eval_put_ne (fun e => once_ne ho j i t' t hj hi hne (Option.some.inj e).symm)
set_option maxHeartbeats 4000000 in
theorem region_u {δ : Type} {U : Upd δ} (ok : UpdOk U) {F : Fence} {n : Nat} {P : Program} {ops : Array Oper} {Q : Exit → Act → World → Prop} {a : Act} {W : World} {id : Nat} (hm : P.follows .mixedOrders = true) (ds : List (Option Nat)) (k : Nat) (hw : wellU ops ds k = true)
    (hsz0 : ds.all (fun d => match d with | some t => Nat.blt t a.tmps.size | none => true) = true) (t0 tm d0 d1 d2 dA dB dC : Nat) (hds : ds.drop k = [some t0, some tm, some d0, some d1, some d2, some dA, some dB, none, none, some dC])
    (facts : Nat → Value → World → Prop) (mono : ∀ j v u u', Bl u u' → facts j v u → facts j v u')
    (step : ∀ (j : Nat) (o : Oper) (t : Nat) (act : Act) (u : World), j < k → ops[j]? = some o → o.dst = some t → act.tmps.size = a.tmps.size → Bl W u → (∀ t, some t ∉ ds → act.eval (.tmp t) = a.eval (.tmp t)) → (∀ e ∈ o.after, Region.binds .any e = true → ∀ t, ds[e.on]? = some (some t) → facts e.on (act.eval (.tmp t)) u) →
      Oper.wpIn F n P o act u (fun act' u' => ∃ v, act' = act.put (some t) v ∧ facts j v u' ∧ Bl u u') Q)
    (call : ∀ (o : Oper) (act : Act) (u : World), ops[k]? = some o → act.tmps.size = a.tmps.size → Bl W u → (∀ t, some t ∉ ds → act.eval (.tmp t) = a.eval (.tmp t)) → (∀ e ∈ o.after, Region.binds .any e = true → ∀ t, ds[e.on]? = some (some t) → facts e.on (act.eval (.tmp t)) u) →
      Oper.wpIn F n P o act u (fun act' u' => ∃ D, act' = act.put (some t0) (.tuple #[U.v0 D, U.v1 D, U.v2 D]) ∧ U.dat D u' ∧ Bl u u' ∧ ∀ b, b < u.heap.size → W.heap.size ≤ b → U.off D b) Q)
    (mv : ∀ (o : Oper) (act : Act) (u : World) (x : Value), ops[k + 1]? = some o → act.eval (.tmp t0) = x → Oper.wpIn F n P o act u (fun act' u' => act' = act.put (some tm) x ∧ u' = u) Q)
    (x0 : ∀ (o : Oper) (act : Act) (u : World) (x y z : Value), ops[k + 2]? = some o → act.eval (.tmp tm) = .tuple #[x, y, z] → Oper.wpIn F n P o act u (fun act' u' => act' = act.put (some d0) x ∧ u' = u) Q)
    (x1 : ∀ (o : Oper) (act : Act) (u : World) (x y z : Value), ops[k + 3]? = some o → act.eval (.tmp tm) = .tuple #[x, y, z] → Oper.wpIn F n P o act u (fun act' u' => act' = act.put (some d1) y ∧ u' = u) Q)
    (x2 : ∀ (o : Oper) (act : Act) (u : World) (x y z : Value), ops[k + 4]? = some o → act.eval (.tmp tm) = .tuple #[x, y, z] → Oper.wpIn F n P o act u (fun act' u' => act' = act.put (some d2) z ∧ u' = u) Q)
    (la : ∀ (o : Oper) (act : Act) (u : World), ops[k + 5]? = some o → Oper.wpIn F n P o act u (fun act' u' => act' = act.put (some dA) (.pointer (some ⟨u.heap.size, 0, none⟩)) ∧ U.za u' u.heap.size ∧ Bl u u' ∧ u.heap.size < u'.heap.size) Q)
    (lb : ∀ (o : Oper) (act : Act) (u : World), ops[k + 6]? = some o → Oper.wpIn F n P o act u (fun act' u' => act' = act.put (some dB) (.pointer (some ⟨u.heap.size, 0, none⟩)) ∧ U.zb u' u.heap.size ∧ Bl u u' ∧ u.heap.size < u'.heap.size) Q)
    (sa : ∀ (o : Oper) (act : Act) (u : World) (D : δ) (b : Nat), ops[k + 7]? = some o → act.eval (.tmp dA) = .pointer (some ⟨b, 0, none⟩) → act.eval (.tmp d0) = U.v0 D → U.za u b → U.dat D u → U.off D b → Bl W u → W.heap.size ≤ b →
      Oper.wpIn F n P o act u (fun act' u' => act' = act ∧ U.sa D u' b ∧ U.dat D u' ∧ Bl W u' ∧ (∀ b', b' ≠ b → u'.heap[b']? = u.heap[b']?) ∧ u.heap.size ≤ u'.heap.size) Q)
    (sb : ∀ (o : Oper) (act : Act) (u : World) (D : δ) (b : Nat), ops[k + 8]? = some o → act.eval (.tmp dB) = .pointer (some ⟨b, 0, none⟩) → act.eval (.tmp d1) = U.v1 D → U.zb u b → U.dat D u → U.off D b → Bl W u → W.heap.size ≤ b →
      Oper.wpIn F n P o act u (fun act' u' => act' = act ∧ U.sb D u' b ∧ U.dat D u' ∧ Bl W u' ∧ (∀ b', b' ≠ b → u'.heap[b']? = u.heap[b']?) ∧ u.heap.size ≤ u'.heap.size) Q)
    (asg : ∀ (o : Oper) (act : Act) (u : World) (x : Value), ops[k + 9]? = some o → act.eval (.tmp d2) = x → Oper.wpIn F n P o act u (fun act' u' => act' = act.put (some dC) x ∧ u' = u) Q)
    (fin : ∀ (vs : Nat → Value) (u : World) (D : δ) (b1 b2 : Nat), Bl W u → vs (k + 9) = U.v2 D → vs (k + 5) = .pointer (some ⟨b1, 0, none⟩) → vs (k + 6) = .pointer (some ⟨b2, 0, none⟩) → W.heap.size ≤ b1 → W.heap.size ≤ b2 → U.sa D u b1 → U.sb D u b2 → U.dat D u → Q .normal (putL ds vs 0 a) u) :
    (Code.region id ops true).wpIn F n P Q a W := by
  simp only [wellU, Bool.and_eq_true] at hw
  obtain ⟨⟨⟨⟨⟨⟨⟨⟨⟨⟨⟨⟨⟨⟨⟨⟨hlow, honce⟩, hlen⟩, hos⟩, hall'⟩, hused⟩, hsome⟩, e10⟩, e21⟩, e31⟩, e41⟩, e75⟩, e72⟩, e86⟩, e83⟩, e87⟩, e94⟩ := hw
  have hos' : ops.size = k + 10 := by simpa using hos
  have hlen' : ds.length = ops.size := by simpa using hlen
  have key : ∀ (j : Nat) (o : Oper), ops[j]? = some o → o.guard = none ∧ ds[j]? = some o.dst := fun j o ho => by
    have := List.all_eq_true.1 hall' j (by simpa using (Array.getElem?_eq_some_iff.1 ho).1)
    rw [ho] at this
    simpa using this
  have hsz : ∀ t, some t ∈ ds → t < a.tmps.size := fun t ht => by have := List.all_eq_true.1 hsz0 _ ht; rw [Nat.blt_eq] at this; exact this
  have dk : ∀ i, ds[k + i]? = ([some t0, some tm, some d0, some d1, some d2, some dA, some dB, none, none, some dC] : List (Option Nat))[i]? := fun i => by rw [← hds, List.getElem?_drop]
  have k0 : ds[k]? = some (some t0) := dk 0
  have k1 : ds[k + 1]? = some (some tm) := dk 1
  have k2 : ds[k + 2]? = some (some d0) := dk 2
  have k3 : ds[k + 3]? = some (some d1) := dk 3
  have k4 : ds[k + 4]? = some (some d2) := dk 4
  have k5 : ds[k + 5]? = some (some dA) := dk 5
  have k6 : ds[k + 6]? = some (some dB) := dk 6
  have k7 : ds[k + 7]? = some none := dk 7
  have k8 : ds[k + 8]? = some none := dk 8
  have k9 : ds[k + 9]? = some (some dC) := dk 9
  refine region_facts2 hm (lowB2_low hlow) (IU U W a ops ds k t0 tm d0 d1 d2 dA dB dC facts) ?_ ?_ ?_
  · exact ⟨rfl, rfl, fun _ _ => rfl, (by intro _ _ _ h; cases h), (Bl.refl _).drew, (by intro _ _ _ _ h; cases h), (by intro h; cases h), (by intro h; cases h), (by intro h; cases h)⟩
  · intro L act u i o hI ho hLi hall
    have hil : i < k + 10 := by have := (Array.getElem?_eq_some_iff.1 ho).1; omega
    refine step_wp ho (key i o ho).1 ?_
    have hdi := (key i o ho).2
    have hfr : ∀ t, some t ∉ ds → act.eval (.tmp t) = a.eval (.tmp t) := fun t ht => hI.frame t (fun j _ e => ht (List.mem_of_getElem? e))
    have shut' : ∀ (j : Nat) (o' : Oper), ops[j]? = some o' → (L j || (j == i)) = true → ∀ e ∈ o'.after, Region.binds .any e = true → (L e.on || (e.on == i)) = true := fun j o' ho' hj e he hb => by
      rw [Bool.or_eq_true] at hj
      rcases hj with hj | hj
      · rw [hI.shut j o' ho' hj e he hb]; rfl
      · obtain rfl : j = i := by simpa using hj
        rw [ho] at ho'
        cases ho'
        rw [hall e he hb]; rfl
    have frame' : ∀ (t : Nat) v, o.dst = some t → ∀ t', (∀ j, (L j || (j == i)) = true → ds[j]? ≠ some (some t')) → (act.put (some t) v).eval (.tmp t') = a.eval (.tmp t') := fun t v hd t' h => by
      rw [eval_put_ne (fun e => h i (by simp) (by rw [hdi, hd, e]))]
      exact hI.frame t' (fun j hj => h j (by rw [hj]; rfl))
    have frame0 : ∀ t', (∀ j, (L j || (j == i)) = true → ds[j]? ≠ some (some t')) → act.eval (.tmp t') = a.eval (.tmp t') := fun t' h => hI.frame t' (fun j hj => h j (by rw [hj]; rfl))
    have waits : ∀ j, edgeB ops i j = true → L j = true := fun j h => by
      obtain ⟨o', e, ho', he, hej, hb⟩ := edge_of h
      rw [ho] at ho'
      cases ho'
      rw [← hej]
      exact hall e he hb
    have done : ∀ x y, edgeB ops x y = true → L x = true → L y = true := fun x y h hx => by
      obtain ⟨o', e, ho', he, hej, hb⟩ := edge_of h
      rw [← hej]
      exact hI.shut x o' ho' hx e he hb
    have ohter : ∀ (t : Nat) (v : Value) (j t' : Nat), ds[i]? = some (some t) → ds[j]? = some (some t') → j ≠ i → (act.put (some t) v).eval (.tmp t') = act.eval (.tmp t') := fun t v j t' h1 h2 h3 => put_other honce h1 h2 h3 v act
    have same : ∀ (t : Nat) (v : Value), ds[i]? = some (some t) → (act.put (some t) v).eval (.tmp t) = v := fun t v h => eval_put_same (by rw [hI.size]; exact hsz t (List.mem_of_getElem? h))
    have lt' : ∀ x, x ≠ i → (L x || (x == i)) = L x := fun x hx => by rw [show (x == i) = false by simpa using hx, Bool.or_false]
    have ii : (L i || (i == i)) = true := by simp
    rcases Nat.lt_or_ge i k with hik | hik
    · -- before the call
      have hk0 : L k = false := by
        cases hh : L k with
        | false => rfl
        | true =>
          have clos : ∀ m j, k - j ≤ m → j < k → L j = true := by
            intro m
            induction m with
            | zero => intro j h1 h2; omega
            | succ m ih =>
              intro j h1 h2
              have h3 := List.all_eq_true.1 hused j (by simpa using h2)
              simp only [List.any_eq_true, Bool.and_eq_true, decide_eq_true_eq, List.mem_range] at h3
              obtain ⟨x, hx, hjx, he⟩ := h3
              refine done x j he ?_
              by_cases e : x = k
              · rw [e]; exact hh
              · exact ih x (by omega) (by omega)
          rw [clos (k - i) i (Nat.le_refl _) hik] at hLi
          cases hLi
      have hd : ∃ t, o.dst = some t := by
        have h3 := List.all_eq_true.1 hsome i (by simpa using hik)
        rw [hdi] at h3
        cases hd : o.dst with
        | some t => exact ⟨t, rfl⟩
        | none => rw [hd] at h3; cases h3
      obtain ⟨t, hd⟩ := hd
      have hdt : ds[i]? = some (some t) := by rw [hdi, hd]
      refine Oper.wpIn_mono ?_ (step i o t act u hik ho hd hI.size hI.bl hfr (fun e he hb t' ht' => hI.pre hk0 e.on t' (by have := lowB2_low hlow i o ho e he hb; omega) (hall e he hb) ht'))
      rintro act' u' ⟨v, rfl, hf, hb⟩
      refine ⟨by rw [size_put]; exact hI.size, by rw [defers_put]; exact hI.defers, frame' t v hd, shut', hI.bl.trans hb, fun _ j t' hj hL hdj => ?_, fun h => ?_, fun h => ?_, fun h => ?_⟩
      · by_cases e : j = i
        · subst e
          rw [hdt] at hdj
          cases hdj
          rw [same t v hdt]
          exact hf
        · rw [ohter t v j t' hdt hdj e]
          rw [lt' j e] at hL
          exact mono j _ u u' hb (hI.pre hk0 j t' hj hL hdj)
      · rw [lt' _ (by omega)] at h
        obtain ⟨b, h1, h2, h3, h4⟩ := hI.A h
        refine ⟨b, by rw [ohter t v _ _ hdt k5 (by omega)]; exact h1, h2, Nat.lt_of_lt_of_le h3 hb.size, fun h5 => ?_⟩
        rw [lt' _ (by omega)] at h5
        exact ok.za_heap u u' b (h4 h5) h3 (Below.block hb b h3) hb.size
      · rw [lt' _ (by omega)] at h
        obtain ⟨b, h1, h2, h3, h4⟩ := hI.B h
        refine ⟨b, by rw [ohter t v _ _ hdt k6 (by omega)]; exact h1, h2, Nat.lt_of_lt_of_le h3 hb.size, fun h5 => ?_⟩
        rw [lt' _ (by omega)] at h5
        exact ok.zb_heap u u' b (h4 h5) h3 (Below.block hb b h3) hb.size
      · rw [lt' _ (by omega), hk0] at h
        cases h
    · skip
      have hcase : i = k ∨ i = k + 1 ∨ i = k + 2 ∨ i = k + 3 ∨ i = k + 4 ∨ i = k + 5 ∨ i = k + 6 ∨ i = k + 7 ∨ i = k + 8 ∨ i = k + 9 := by omega
      have fls : ∀ x, (L x = true → False) → L x = false := fun x h => by cases hh : L x with | false => rfl | true => exact (h hh).elim
      have no : ∀ x, L i = true → x := fun x h => by rw [h] at hLi; cases hLi
      have to0 : L (k + 1) = true → L k = true := done _ _ e10
      have to21 : L (k + 2) = true → L k = true := fun h => to0 (done _ _ e21 h)
      have to31 : L (k + 3) = true → L k = true := fun h => to0 (done _ _ e31 h)
      have to41 : L (k + 4) = true → L k = true := fun h => to0 (done _ _ e41 h)
      rcases hcase with rfl | rfl | rfl | rfl | rfl | rfl | rfl | rfl | rfl | rfl
      · -- the call
        have n1 : L (i + 1) = false := fls _ fun h => no _ (to0 h)
        have n2 : L (i + 2) = false := fls _ fun h => no _ (to21 h)
        have n3 : L (i + 3) = false := fls _ fun h => no _ (to31 h)
        have n4 : L (i + 4) = false := fls _ fun h => no _ (to41 h)
        have n7 : L (i + 7) = false := fls _ fun h => no _ (to21 (done _ _ e72 h))
        have n8 : L (i + 8) = false := fls _ fun h => no _ (to31 (done _ _ e83 h))
        have n9 : L (i + 9) = false := fls _ fun h => no _ (to41 (done _ _ e94 h))
        have hd : o.dst = some t0 := by rw [hdi] at k0; exact Option.some.inj k0
        refine Oper.wpIn_mono ?_ (call o act u ho hI.size hI.bl hfr (fun e he hb t' ht' => hI.pre hLi e.on t' (lowB2_low hlow i o ho e he hb) (hall e he hb) ht'))
        rintro act' u' ⟨D, rfl, hdat, hb, hoff⟩
        refine ⟨by rw [size_put]; exact hI.size, by rw [defers_put]; exact hI.defers, frame' t0 _ hd, shut', hI.bl.trans hb, fun h => (by rw [ii] at h; cases h), fun h => ?_, fun h => ?_, fun _ => ⟨D, same _ _ k0, hdat, fun h => ?_, fun h => ?_, fun h => ?_, fun h => ?_, fun h => ?_, fun h b hb1 => ?_, fun h b hb1 => ?_⟩⟩
        · rw [lt' _ (by omega)] at h
          obtain ⟨b, h1, h2, h3, h4⟩ := hI.A h
          exact ⟨b, by rw [ohter _ _ _ _ k0 k5 (by omega)]; exact h1, h2, Nat.lt_of_lt_of_le h3 hb.size, fun _ => ok.za_heap u u' b (h4 n7) h3 (Below.block hb b h3) hb.size⟩
        · rw [lt' _ (by omega)] at h
          obtain ⟨b, h1, h2, h3, h4⟩ := hI.B h
          exact ⟨b, by rw [ohter _ _ _ _ k0 k6 (by omega)]; exact h1, h2, Nat.lt_of_lt_of_le h3 hb.size, fun _ => ok.zb_heap u u' b (h4 n8) h3 (Below.block hb b h3) hb.size⟩
        · rw [lt' _ (by omega), n1] at h; cases h
        · rw [lt' _ (by omega), n2] at h; cases h
        · rw [lt' _ (by omega), n3] at h; cases h
        · rw [lt' _ (by omega), n4] at h; cases h
        · rw [lt' _ (by omega), n9] at h; cases h
        · rw [lt' _ (by omega)] at h
          obtain ⟨b', h1, h2, h3, h4⟩ := hI.A h
          rw [ohter _ _ _ _ k0 k5 (by omega), h1] at hb1
          cases hb1
          exact ⟨hoff b h3 h2, fun h7 => by rw [lt' _ (by omega), n7] at h7; cases h7⟩
        · rw [lt' _ (by omega)] at h
          obtain ⟨b', h1, h2, h3, h4⟩ := hI.B h
          rw [ohter _ _ _ _ k0 k6 (by omega), h1] at hb1
          cases hb1
          exact ⟨hoff b h3 h2, fun h7 => by rw [lt' _ (by omega), n8] at h7; cases h7⟩
      · have hLk : L k = true := waits _ e10
        obtain ⟨D, p0, pd, p1, p2, p3, p4, p9, pA, pB⟩ := hI.post hLk
        have hx := p0
        have hd : o.dst = some tm := by rw [hdi] at k1; exact Option.some.inj k1
        refine Oper.wpIn_mono ?_ (mv o act u _ ho hx)
        rintro act' u' ⟨rfl, rfl⟩
        refine ⟨by rw [size_put]; exact hI.size, by rw [defers_put]; exact hI.defers, frame' tm _ hd, shut', hI.bl, fun h => (by rw [lt' _ (by omega), hLk] at h; cases h), fun h => ?_, fun h => ?_, fun _ => ⟨D, by rw [ohter _ _ _ _ k1 k0 (by omega)]; exact p0, pd, fun h => ?_, fun h => ?_, fun h => ?_, fun h => ?_, fun h => ?_, fun h b hb1 => ?_, fun h b hb1 => ?_⟩⟩
        · rw [lt' _ (by omega)] at h
          obtain ⟨b, h1, h2, h3, h4⟩ := hI.A h
          exact ⟨b, by rw [ohter _ _ _ _ k1 k5 (by omega)]; exact h1, h2, h3, fun h5 => h4 (by rw [lt' _ (by omega)] at h5; exact h5)⟩
        · rw [lt' _ (by omega)] at h
          obtain ⟨b, h1, h2, h3, h4⟩ := hI.B h
          exact ⟨b, by rw [ohter _ _ _ _ k1 k6 (by omega)]; exact h1, h2, h3, fun h5 => h4 (by rw [lt' _ (by omega)] at h5; exact h5)⟩
        · exact same _ _ k1
        · rw [lt' _ (by omega)] at h
          rw [ohter _ _ _ _ k1 k2 (by omega)]
          exact p2 h
        · rw [lt' _ (by omega)] at h
          rw [ohter _ _ _ _ k1 k3 (by omega)]
          exact p3 h
        · rw [lt' _ (by omega)] at h
          rw [ohter _ _ _ _ k1 k4 (by omega)]
          exact p4 h
        · rw [lt' _ (by omega)] at h
          rw [ohter _ _ _ _ k1 k9 (by omega)]
          exact p9 h
        · rw [lt' _ (by omega)] at h
          rw [ohter _ _ _ _ k1 k5 (by omega)] at hb1
          obtain ⟨q1, q2⟩ := pA h b hb1
          exact ⟨q1, fun h7 => q2 (by rw [lt' _ (by omega)] at h7; exact h7)⟩
        · rw [lt' _ (by omega)] at h
          rw [ohter _ _ _ _ k1 k6 (by omega)] at hb1
          obtain ⟨q1, q2⟩ := pB h b hb1
          exact ⟨q1, fun h7 => q2 (by rw [lt' _ (by omega)] at h7; exact h7)⟩
      · have hLk : L k = true := to0 (waits _ e21)
        obtain ⟨D, p0, pd, p1, p2, p3, p4, p9, pA, pB⟩ := hI.post hLk
        have hx := p1 (waits _ e21)
        have hd : o.dst = some d0 := by rw [hdi] at k2; exact Option.some.inj k2
        refine Oper.wpIn_mono ?_ (x0 o act u _ _ _ ho hx)
        rintro act' u' ⟨rfl, rfl⟩
        refine ⟨by rw [size_put]; exact hI.size, by rw [defers_put]; exact hI.defers, frame' d0 _ hd, shut', hI.bl, fun h => (by rw [lt' _ (by omega), hLk] at h; cases h), fun h => ?_, fun h => ?_, fun _ => ⟨D, by rw [ohter _ _ _ _ k2 k0 (by omega)]; exact p0, pd, fun h => ?_, fun h => ?_, fun h => ?_, fun h => ?_, fun h => ?_, fun h b hb1 => ?_, fun h b hb1 => ?_⟩⟩
        · rw [lt' _ (by omega)] at h
          obtain ⟨b, h1, h2, h3, h4⟩ := hI.A h
          exact ⟨b, by rw [ohter _ _ _ _ k2 k5 (by omega)]; exact h1, h2, h3, fun h5 => h4 (by rw [lt' _ (by omega)] at h5; exact h5)⟩
        · rw [lt' _ (by omega)] at h
          obtain ⟨b, h1, h2, h3, h4⟩ := hI.B h
          exact ⟨b, by rw [ohter _ _ _ _ k2 k6 (by omega)]; exact h1, h2, h3, fun h5 => h4 (by rw [lt' _ (by omega)] at h5; exact h5)⟩
        · rw [lt' _ (by omega)] at h
          rw [ohter _ _ _ _ k2 k1 (by omega)]
          exact p1 h
        · exact same _ _ k2
        · rw [lt' _ (by omega)] at h
          rw [ohter _ _ _ _ k2 k3 (by omega)]
          exact p3 h
        · rw [lt' _ (by omega)] at h
          rw [ohter _ _ _ _ k2 k4 (by omega)]
          exact p4 h
        · rw [lt' _ (by omega)] at h
          rw [ohter _ _ _ _ k2 k9 (by omega)]
          exact p9 h
        · rw [lt' _ (by omega)] at h
          rw [ohter _ _ _ _ k2 k5 (by omega)] at hb1
          obtain ⟨q1, q2⟩ := pA h b hb1
          exact ⟨q1, fun h7 => q2 (by rw [lt' _ (by omega)] at h7; exact h7)⟩
        · rw [lt' _ (by omega)] at h
          rw [ohter _ _ _ _ k2 k6 (by omega)] at hb1
          obtain ⟨q1, q2⟩ := pB h b hb1
          exact ⟨q1, fun h7 => q2 (by rw [lt' _ (by omega)] at h7; exact h7)⟩
      · have hLk : L k = true := to0 (waits _ e31)
        obtain ⟨D, p0, pd, p1, p2, p3, p4, p9, pA, pB⟩ := hI.post hLk
        have hx := p1 (waits _ e31)
        have hd : o.dst = some d1 := by rw [hdi] at k3; exact Option.some.inj k3
        refine Oper.wpIn_mono ?_ (x1 o act u _ _ _ ho hx)
        rintro act' u' ⟨rfl, rfl⟩
        refine ⟨by rw [size_put]; exact hI.size, by rw [defers_put]; exact hI.defers, frame' d1 _ hd, shut', hI.bl, fun h => (by rw [lt' _ (by omega), hLk] at h; cases h), fun h => ?_, fun h => ?_, fun _ => ⟨D, by rw [ohter _ _ _ _ k3 k0 (by omega)]; exact p0, pd, fun h => ?_, fun h => ?_, fun h => ?_, fun h => ?_, fun h => ?_, fun h b hb1 => ?_, fun h b hb1 => ?_⟩⟩
        · rw [lt' _ (by omega)] at h
          obtain ⟨b, h1, h2, h3, h4⟩ := hI.A h
          exact ⟨b, by rw [ohter _ _ _ _ k3 k5 (by omega)]; exact h1, h2, h3, fun h5 => h4 (by rw [lt' _ (by omega)] at h5; exact h5)⟩
        · rw [lt' _ (by omega)] at h
          obtain ⟨b, h1, h2, h3, h4⟩ := hI.B h
          exact ⟨b, by rw [ohter _ _ _ _ k3 k6 (by omega)]; exact h1, h2, h3, fun h5 => h4 (by rw [lt' _ (by omega)] at h5; exact h5)⟩
        · rw [lt' _ (by omega)] at h
          rw [ohter _ _ _ _ k3 k1 (by omega)]
          exact p1 h
        · rw [lt' _ (by omega)] at h
          rw [ohter _ _ _ _ k3 k2 (by omega)]
          exact p2 h
        · exact same _ _ k3
        · rw [lt' _ (by omega)] at h
          rw [ohter _ _ _ _ k3 k4 (by omega)]
          exact p4 h
        · rw [lt' _ (by omega)] at h
          rw [ohter _ _ _ _ k3 k9 (by omega)]
          exact p9 h
        · rw [lt' _ (by omega)] at h
          rw [ohter _ _ _ _ k3 k5 (by omega)] at hb1
          obtain ⟨q1, q2⟩ := pA h b hb1
          exact ⟨q1, fun h7 => q2 (by rw [lt' _ (by omega)] at h7; exact h7)⟩
        · rw [lt' _ (by omega)] at h
          rw [ohter _ _ _ _ k3 k6 (by omega)] at hb1
          obtain ⟨q1, q2⟩ := pB h b hb1
          exact ⟨q1, fun h7 => q2 (by rw [lt' _ (by omega)] at h7; exact h7)⟩
      · have hLk : L k = true := to0 (waits _ e41)
        obtain ⟨D, p0, pd, p1, p2, p3, p4, p9, pA, pB⟩ := hI.post hLk
        have hx := p1 (waits _ e41)
        have hd : o.dst = some d2 := by rw [hdi] at k4; exact Option.some.inj k4
        refine Oper.wpIn_mono ?_ (x2 o act u _ _ _ ho hx)
        rintro act' u' ⟨rfl, rfl⟩
        refine ⟨by rw [size_put]; exact hI.size, by rw [defers_put]; exact hI.defers, frame' d2 _ hd, shut', hI.bl, fun h => (by rw [lt' _ (by omega), hLk] at h; cases h), fun h => ?_, fun h => ?_, fun _ => ⟨D, by rw [ohter _ _ _ _ k4 k0 (by omega)]; exact p0, pd, fun h => ?_, fun h => ?_, fun h => ?_, fun h => ?_, fun h => ?_, fun h b hb1 => ?_, fun h b hb1 => ?_⟩⟩
        · rw [lt' _ (by omega)] at h
          obtain ⟨b, h1, h2, h3, h4⟩ := hI.A h
          exact ⟨b, by rw [ohter _ _ _ _ k4 k5 (by omega)]; exact h1, h2, h3, fun h5 => h4 (by rw [lt' _ (by omega)] at h5; exact h5)⟩
        · rw [lt' _ (by omega)] at h
          obtain ⟨b, h1, h2, h3, h4⟩ := hI.B h
          exact ⟨b, by rw [ohter _ _ _ _ k4 k6 (by omega)]; exact h1, h2, h3, fun h5 => h4 (by rw [lt' _ (by omega)] at h5; exact h5)⟩
        · rw [lt' _ (by omega)] at h
          rw [ohter _ _ _ _ k4 k1 (by omega)]
          exact p1 h
        · rw [lt' _ (by omega)] at h
          rw [ohter _ _ _ _ k4 k2 (by omega)]
          exact p2 h
        · rw [lt' _ (by omega)] at h
          rw [ohter _ _ _ _ k4 k3 (by omega)]
          exact p3 h
        · exact same _ _ k4
        · rw [lt' _ (by omega)] at h
          rw [ohter _ _ _ _ k4 k9 (by omega)]
          exact p9 h
        · rw [lt' _ (by omega)] at h
          rw [ohter _ _ _ _ k4 k5 (by omega)] at hb1
          obtain ⟨q1, q2⟩ := pA h b hb1
          exact ⟨q1, fun h7 => q2 (by rw [lt' _ (by omega)] at h7; exact h7)⟩
        · rw [lt' _ (by omega)] at h
          rw [ohter _ _ _ _ k4 k6 (by omega)] at hb1
          obtain ⟨q1, q2⟩ := pB h b hb1
          exact ⟨q1, fun h7 => q2 (by rw [lt' _ (by omega)] at h7; exact h7)⟩
      · have nS : L (k + 7) = false := fls _ fun h => no _ (done _ _ e75 h)
        have hd : o.dst = some dA := by rw [hdi] at k5; exact Option.some.inj k5
        refine Oper.wpIn_mono ?_ (la o act u ho)
        rintro act' u' ⟨rfl, hz, hb, hlt⟩
        refine ⟨by rw [size_put]; exact hI.size, by rw [defers_put]; exact hI.defers, frame' dA _ hd, shut', hI.bl.trans hb, fun h j t' hj hL hdj => ?_, fun _ => ⟨u.heap.size, same _ _ k5, hI.bl.size, hlt, fun _ => hz⟩, fun h => ?_, fun h => ?_⟩
        · rw [lt' _ (by omega)] at h
          rw [lt' _ (by omega)] at hL
          rw [ohter _ _ _ _ k5 hdj (by omega)]
          exact mono j _ u u' hb (hI.pre h j t' hj hL hdj)
        · rw [lt' _ (by omega)] at h
          obtain ⟨b, h1, h2, h3, h4⟩ := hI.B h
          refine ⟨b, by rw [ohter _ _ _ _ k5 k6 (by omega)]; exact h1, h2, Nat.lt_of_lt_of_le h3 hb.size, fun h5 => ?_⟩
          rw [lt' _ (by omega)] at h5
          exact ok.zb_heap u u' b (h4 h5) h3 (Below.block hb b h3) hb.size
        · rw [lt' _ (by omega)] at h
          obtain ⟨D, p0, pd, p1, p2, p3, p4, p9, pA, pB⟩ := hI.post h
          refine ⟨D, by rw [ohter _ _ _ _ k5 k0 (by omega)]; exact p0, ok.dat_bl D u u' pd hb, fun h => ?_, fun h => ?_, fun h => ?_, fun h => ?_, fun h => ?_, fun h b hb1 => ?_, fun h b hb1 => ?_⟩
          · rw [lt' _ (by omega)] at h; rw [ohter _ _ _ _ k5 k1 (by omega)]; exact p1 h
          · rw [lt' _ (by omega)] at h; rw [ohter _ _ _ _ k5 k2 (by omega)]; exact p2 h
          · rw [lt' _ (by omega)] at h; rw [ohter _ _ _ _ k5 k3 (by omega)]; exact p3 h
          · rw [lt' _ (by omega)] at h; rw [ohter _ _ _ _ k5 k4 (by omega)]; exact p4 h
          · rw [lt' _ (by omega)] at h; rw [ohter _ _ _ _ k5 k9 (by omega)]; exact p9 h
          · rw [same _ _ k5] at hb1
            cases hb1
            exact ⟨ok.dat_off D u _ pd (Nat.le_refl _), fun h7 => by rw [lt' _ (by omega), nS] at h7; cases h7⟩
          · rw [lt' _ (by omega)] at h
            rw [ohter _ _ _ _ k5 k6 (by omega)] at hb1
            obtain ⟨q1, q2⟩ := pB h b hb1
            obtain ⟨b', h1, h2, h3, h4⟩ := hI.B h
            rw [h1] at hb1
            cases hb1
            exact ⟨q1, fun h7 => ok.sb_heap D u u' b (q2 (by rw [lt' _ (by omega)] at h7; exact h7)) h3 (Below.block hb b h3) hb.size⟩
      · have nS : L (k + 8) = false := fls _ fun h => no _ (done _ _ e86 h)
        have hd : o.dst = some dB := by rw [hdi] at k6; exact Option.some.inj k6
        refine Oper.wpIn_mono ?_ (lb o act u ho)
        rintro act' u' ⟨rfl, hz, hb, hlt⟩
        refine ⟨by rw [size_put]; exact hI.size, by rw [defers_put]; exact hI.defers, frame' dB _ hd, shut', hI.bl.trans hb, fun h j t' hj hL hdj => ?_, fun h => ?_, fun _ => ⟨u.heap.size, same _ _ k6, hI.bl.size, hlt, fun _ => hz⟩, fun h => ?_⟩
        · rw [lt' _ (by omega)] at h
          rw [lt' _ (by omega)] at hL
          rw [ohter _ _ _ _ k6 hdj (by omega)]
          exact mono j _ u u' hb (hI.pre h j t' hj hL hdj)
        · rw [lt' _ (by omega)] at h
          obtain ⟨b, h1, h2, h3, h4⟩ := hI.A h
          refine ⟨b, by rw [ohter _ _ _ _ k6 k5 (by omega)]; exact h1, h2, Nat.lt_of_lt_of_le h3 hb.size, fun h5 => ?_⟩
          rw [lt' _ (by omega)] at h5
          exact ok.za_heap u u' b (h4 h5) h3 (Below.block hb b h3) hb.size
        · rw [lt' _ (by omega)] at h
          obtain ⟨D, p0, pd, p1, p2, p3, p4, p9, pA, pB⟩ := hI.post h
          refine ⟨D, by rw [ohter _ _ _ _ k6 k0 (by omega)]; exact p0, ok.dat_bl D u u' pd hb, fun h => ?_, fun h => ?_, fun h => ?_, fun h => ?_, fun h => ?_, fun h b hb1 => ?_, fun h b hb1 => ?_⟩
          · rw [lt' _ (by omega)] at h; rw [ohter _ _ _ _ k6 k1 (by omega)]; exact p1 h
          · rw [lt' _ (by omega)] at h; rw [ohter _ _ _ _ k6 k2 (by omega)]; exact p2 h
          · rw [lt' _ (by omega)] at h; rw [ohter _ _ _ _ k6 k3 (by omega)]; exact p3 h
          · rw [lt' _ (by omega)] at h; rw [ohter _ _ _ _ k6 k4 (by omega)]; exact p4 h
          · rw [lt' _ (by omega)] at h; rw [ohter _ _ _ _ k6 k9 (by omega)]; exact p9 h
          · rw [lt' _ (by omega)] at h
            rw [ohter _ _ _ _ k6 k5 (by omega)] at hb1
            obtain ⟨q1, q2⟩ := pA h b hb1
            obtain ⟨b', h1, h2, h3, h4⟩ := hI.A h
            rw [h1] at hb1
            cases hb1
            exact ⟨q1, fun h7 => ok.sa_heap D u u' b (q2 (by rw [lt' _ (by omega)] at h7; exact h7)) h3 (Below.block hb b h3) hb.size⟩
          · rw [same _ _ k6] at hb1
            cases hb1
            exact ⟨ok.dat_off D u _ pd (Nat.le_refl _), fun h7 => by rw [lt' _ (by omega), nS] at h7; cases h7⟩
      · -- the first store
        have hLk : L k = true := to21 (waits _ e72)
        have h5 : L (k + 5) = true := waits _ e75
        have n8 : L (k + 8) = false := fls _ fun h => no _ (done _ _ e87 h)
        obtain ⟨D, p0, pd, p1, p2, p3, p4, p9, pA, pB⟩ := hI.post hLk
        obtain ⟨b, h1, h2, h3, h4⟩ := hI.A h5
        have hoff := (pA h5 b h1).1
        have hz := h4 hLi
        refine Oper.wpIn_mono ?_ (sa o act u D b ho h1 (p2 (waits _ e72)) hz pd hoff hI.bl h2)
        rintro act' u' ⟨rfl, hs, hdat, hbl, hne, hsz'⟩
        refine ⟨hI.size, hI.defers, frame0, shut', hbl, fun h => (by rw [lt' _ (by omega), hLk] at h; cases h), fun _ => ⟨b, h1, h2, Nat.lt_of_lt_of_le h3 hsz', fun h => by rw [ii] at h; cases h⟩, fun h => ?_, fun _ => ⟨D, p0, hdat, fun h => p1 (by rw [lt' _ (by omega)] at h; exact h), fun h => p2 (by rw [lt' _ (by omega)] at h; exact h), fun h => p3 (by rw [lt' _ (by omega)] at h; exact h), fun h => p4 (by rw [lt' _ (by omega)] at h; exact h), fun h => p9 (by rw [lt' _ (by omega)] at h; exact h), fun h b' hb' => ?_, fun h b' hb' => ?_⟩⟩
        · rw [lt' _ (by omega)] at h
          obtain ⟨b2, g1, g2, g3, g4⟩ := hI.B h
          exact ⟨b2, g1, g2, Nat.lt_of_lt_of_le g3 hsz', fun _ => ok.zb_heap u u' b2 (g4 n8) g3 (hne b2 (fun e => ok.ne0 u b hz (by rw [← e]; exact g4 n8))) hsz'⟩
        · rw [h1] at hb'
          cases hb'
          exact ⟨hoff, fun _ => hs⟩
        · rw [lt' _ (by omega)] at h
          exact ⟨(pB h b' hb').1, fun h8 => by rw [lt' _ (by omega), n8] at h8; cases h8⟩
      · -- the second store
        have hLk : L k = true := to31 (waits _ e83)
        have h6 : L (k + 6) = true := waits _ e86
        have h7 : L (k + 7) = true := waits _ e87
        have h5 : L (k + 5) = true := done _ _ e75 h7
        obtain ⟨D, p0, pd, p1, p2, p3, p4, p9, pA, pB⟩ := hI.post hLk
        obtain ⟨b, h1, h2, h3, h4⟩ := hI.B h6
        obtain ⟨b1, g1, g2, g3, g4⟩ := hI.A h5
        have hoff := (pB h6 b h1).1
        have hz := h4 hLi
        obtain ⟨hoff1, hsa⟩ := pA h5 b1 g1
        refine Oper.wpIn_mono ?_ (sb o act u D b ho h1 (p3 (waits _ e83)) hz pd hoff hI.bl h2)
        rintro act' u' ⟨rfl, hs, hdat, hbl, hne, hsz'⟩
        have hb1 : b1 ≠ b := fun e => ok.ne2 D u b (by rw [← e]; exact hsa h7) hz
        refine ⟨hI.size, hI.defers, frame0, shut', hbl, fun h => (by rw [lt' _ (by omega), hLk] at h; cases h), fun _ => ⟨b1, g1, g2, Nat.lt_of_lt_of_le g3 hsz', fun h => by rw [lt' _ (by omega), h7] at h; cases h⟩, fun _ => ⟨b, h1, h2, Nat.lt_of_lt_of_le h3 hsz', fun h => by rw [ii] at h; cases h⟩, fun _ => ⟨D, p0, hdat, fun h => p1 (by rw [lt' _ (by omega)] at h; exact h), fun h => p2 (by rw [lt' _ (by omega)] at h; exact h), fun h => p3 (by rw [lt' _ (by omega)] at h; exact h), fun h => p4 (by rw [lt' _ (by omega)] at h; exact h), fun h => p9 (by rw [lt' _ (by omega)] at h; exact h), fun h b' hb' => ?_, fun h b' hb' => ?_⟩⟩
        · rw [g1] at hb'
          cases hb'
          exact ⟨hoff1, fun _ => ok.sa_heap D u u' b1 (hsa h7) g3 (hne b1 hb1) hsz'⟩
        · rw [h1] at hb'
          cases hb'
          exact ⟨hoff, fun _ => hs⟩
      · have hLk : L k = true := to41 (waits _ e94)
        obtain ⟨D, p0, pd, p1, p2, p3, p4, p9, pA, pB⟩ := hI.post hLk
        have hx := p4 (waits _ e94)
        have hd : o.dst = some dC := by rw [hdi] at k9; exact Option.some.inj k9
        refine Oper.wpIn_mono ?_ (asg o act u _ ho hx)
        rintro act' u' ⟨rfl, rfl⟩
        refine ⟨by rw [size_put]; exact hI.size, by rw [defers_put]; exact hI.defers, frame' dC _ hd, shut', hI.bl, fun h => (by rw [lt' _ (by omega), hLk] at h; cases h), fun h => ?_, fun h => ?_, fun _ => ⟨D, by rw [ohter _ _ _ _ k9 k0 (by omega)]; exact p0, pd, fun h => ?_, fun h => ?_, fun h => ?_, fun h => ?_, fun h => ?_, fun h b hb1 => ?_, fun h b hb1 => ?_⟩⟩
        · rw [lt' _ (by omega)] at h
          obtain ⟨b, h1, h2, h3, h4⟩ := hI.A h
          exact ⟨b, by rw [ohter _ _ _ _ k9 k5 (by omega)]; exact h1, h2, h3, fun h5 => h4 (by rw [lt' _ (by omega)] at h5; exact h5)⟩
        · rw [lt' _ (by omega)] at h
          obtain ⟨b, h1, h2, h3, h4⟩ := hI.B h
          exact ⟨b, by rw [ohter _ _ _ _ k9 k6 (by omega)]; exact h1, h2, h3, fun h5 => h4 (by rw [lt' _ (by omega)] at h5; exact h5)⟩
        · rw [lt' _ (by omega)] at h
          rw [ohter _ _ _ _ k9 k1 (by omega)]
          exact p1 h
        · rw [lt' _ (by omega)] at h
          rw [ohter _ _ _ _ k9 k2 (by omega)]
          exact p2 h
        · rw [lt' _ (by omega)] at h
          rw [ohter _ _ _ _ k9 k3 (by omega)]
          exact p3 h
        · rw [lt' _ (by omega)] at h
          rw [ohter _ _ _ _ k9 k4 (by omega)]
          exact p4 h
        · exact same _ _ k9
        · rw [lt' _ (by omega)] at h
          rw [ohter _ _ _ _ k9 k5 (by omega)] at hb1
          obtain ⟨q1, q2⟩ := pA h b hb1
          exact ⟨q1, fun h7 => q2 (by rw [lt' _ (by omega)] at h7; exact h7)⟩
        · rw [lt' _ (by omega)] at h
          rw [ohter _ _ _ _ k9 k6 (by omega)] at hb1
          obtain ⟨q1, q2⟩ := pB h b hb1
          exact ⟨q1, fun h7 => q2 (by rw [lt' _ (by omega)] at h7; exact h7)⟩
  · intro L act u hI hall
    have hL : ∀ j, j < k + 10 → L j = true := fun j h => hall j (by omega)
    have e : act = putL ds (fun j => act.eval (.tmp ((ds[j]?.getD none).getD 0))) 0 a := by
      refine act_ext (by rw [putL_size]; exact hI.size) (by rw [putL_defers]; exact hI.defers) fun t ht => ?_
      by_cases hm' : some t ∈ ds
      · obtain ⟨j, hj⟩ := List.getElem?_of_mem hm'
        rw [putL_at ds _ t j 0 a honce hj (by rw [← hI.size]; exact ht), Nat.zero_add, hj]
        rfl
      · rw [putL_other ds _ t 0 a (fun d hd e => hm' (by rw [← e]; exact hd))]
        exact hI.frame t (fun j _ e => hm' (List.mem_of_getElem? e))
    obtain ⟨D, p0, pd, p1, p2, p3, p4, p9, pA, pB⟩ := hI.post (hL k (by omega))
    obtain ⟨b1, h1, h2, h3, _⟩ := hI.A (hL _ (by omega))
    obtain ⟨b2, g1, g2, g3, _⟩ := hI.B (hL _ (by omega))
    rw [e]
    exact fin _ u D b1 b2 hI.bl (by simp only [k9]; exact p9 (hL _ (by omega))) (by simp only [k5]; exact h1) (by simp only [k6]; exact g1) h2 g2 ((pA (hL _ (by omega)) b1 h1).2 (hL _ (by omega))) ((pB (hL _ (by omega)) b2 g1).2 (hL _ (by omega))) pd
end Go.Proofs.YtljmggemdkfbiaaGreat
