/- The contract of the document's Root. -/
import Derived.Test.YthnadgbloamlaaaGreatEB
import Derived.Test.YthnadgbloamlaaaGreatEA
import Derived.Test.YthnadgbloamlaaaGreatMaH
import Derived.Test.YthnadgbloamlaaaGreatWlr
import Derived.Test.YthnadgbloamlaaaGreatLeaf
import Derived.Lib.BitFns
import Derived.Lib.Strings
import Derived.Lib.Walk
import Derived.WalkKit
import Derived.Laws.MathBits
import Derived.BigQuiet
import Derived.Test.YthnadgbloamlaaaGreatCmp
import Derived.Test.YthnadgbloamlaaaGreatRoot
import Derived.Test.YthnadgbloamlaaaGreatTimes
import Derived.Deep.DeepCutAuto
/- A region that draws its order: operations that read, or lay blocks; then a call; of the three that it tells two are stored in new blocks, each of its own. -/
namespace Go.Proofs.YthnadgbloamlaaaGreat
open Go.RowKit
set_option linter.unusedSimpArgs false
set_option linter.unusedVariables false

/-- Operation i waits for operation j. -/
def edgeB (ops : Array Oper) (i j : Nat) : Bool := match ops[i]? with
  | none => false
  | some o => o.after.any fun e => (e.on == j) && Region.binds .any e
theorem edge_of {ops : Array Oper} {i j : Nat} (h : edgeB ops i j = true) : ∃ (o : Oper) (e : Edge), ops[i]? = some o ∧ e ∈ o.after ∧ e.on = j ∧ Region.binds .any e = true := by
  unfold edgeB at h
  cases ho : ops[i]? with
  | none => rw [ho] at h; cases h
  | some o =>
    rw [ho] at h
    simp only [Array.any_eq_true'] at h
    obtain ⟨e, he, hb⟩ := h
    simp only [Bool.and_eq_true, beq_iff_eq] at hb
    exact ⟨o, e, rfl, he, hb.1, hb.2⟩
/-- What must hold of the operations, by reckoning: k is the call's number. -/
def wellU (ops : Array Oper) (ds : List (Option Nat)) (k : Nat) : Bool :=
  lowB2 ops && onceB ds && (ds.length == ops.size) && (ops.size == k + 10) && ((List.range ops.size).all fun j => match ops[j]? with
    | none => true
    | some o => o.guard.isNone && (ds[j]? == some o.dst)) && ((List.range k).all fun j => (List.range (k + 1)).any fun i => decide (j < i) && edgeB ops i j)
    && ((List.range k).all fun j => match ds[j]? with
      | some (some _) => true
      | _ => false) && edgeB ops (k + 1) k && edgeB ops (k + 2) (k + 1) && edgeB ops (k + 3) (k + 1) && edgeB ops (k + 4) (k + 1) && edgeB ops (k + 7) (k + 5) && edgeB ops (k + 7) (k + 2) && edgeB ops (k + 8) (k + 6) && edgeB ops (k + 8) (k + 3) && edgeB ops (k + 8) (k + 7) && edgeB ops (k + 9) (k + 4)
/-- What the call tells, and what becomes of it. -/
structure Upd (δ : Type) where
  v0 : δ → Value
  v1 : δ → Value
  v2 : δ → Value
  dat : δ → World → Prop
  off : δ → Nat → Prop
  za : World → Nat → Prop
  zb : World → Nat → Prop
  sa : δ → World → Nat → Prop
  sb : δ → World → Nat → Prop
structure UpdOk {δ : Type} (U : Upd δ) : Prop where
  dat_bl : ∀ D u u', U.dat D u → Bl u u' → U.dat D u'
  dat_off : ∀ D u b, U.dat D u → u.heap.size ≤ b → U.off D b
  za_heap : ∀ u u' b, U.za u b → b < u.heap.size → u'.heap[b]? = u.heap[b]? → u.heap.size ≤ u'.heap.size → U.za u' b
  zb_heap : ∀ u u' b, U.zb u b → b < u.heap.size → u'.heap[b]? = u.heap[b]? → u.heap.size ≤ u'.heap.size → U.zb u' b
  sa_heap : ∀ D u u' b, U.sa D u b → b < u.heap.size → u'.heap[b]? = u.heap[b]? → u.heap.size ≤ u'.heap.size → U.sa D u' b
  sb_heap : ∀ D u u' b, U.sb D u b → b < u.heap.size → u'.heap[b]? = u.heap[b]? → u.heap.size ≤ u'.heap.size → U.sb D u' b
  ne0 : ∀ u b, U.za u b → U.zb u b → False
  ne1 : ∀ D u b, U.za u b → U.sb D u b → False
  ne2 : ∀ D u b, U.sa D u b → U.zb u b → False
/-- Between two of the operations. -/
structure IU {δ : Type} (U : Upd δ) (W : World) (a : Act) (ops : Array Oper) (ds : List (Option Nat)) (k t0 tm d0 d1 d2 dA dB dC : Nat) (facts : Nat → Value → World → Prop) (L : Nat → Bool) (act : Act) (u : World) : Prop where
  size : act.tmps.size = a.tmps.size
  defers : act.defers = a.defers
  frame : ∀ t, (∀ j, L j = true → ds[j]? ≠ some (some t)) → act.eval (.tmp t) = a.eval (.tmp t)
  shut : ∀ (j : Nat) (o : Oper), ops[j]? = some o → L j = true → ∀ e ∈ o.after, Region.binds .any e = true → L e.on = true
  bl : Bl W u
  pre : L k = false → ∀ j t, j < k → L j = true → ds[j]? = some (some t) → facts j (act.eval (.tmp t)) u
  A : L (k + 5) = true → ∃ b, act.eval (.tmp dA) = .pointer (some ⟨b, 0, none⟩) ∧ W.heap.size ≤ b ∧ b < u.heap.size ∧ (L (k + 7) = false → U.za u b)
  B : L (k + 6) = true → ∃ b, act.eval (.tmp dB) = .pointer (some ⟨b, 0, none⟩) ∧ W.heap.size ≤ b ∧ b < u.heap.size ∧ (L (k + 8) = false → U.zb u b)
  post : L k = true → ∃ D, act.eval (.tmp t0) = .tuple #[U.v0 D, U.v1 D, U.v2 D] ∧ U.dat D u ∧ (L (k + 1) = true → act.eval (.tmp tm) = .tuple #[U.v0 D, U.v1 D, U.v2 D])
    ∧ (L (k + 2) = true → act.eval (.tmp d0) = U.v0 D) ∧ (L (k + 3) = true → act.eval (.tmp d1) = U.v1 D) ∧ (L (k + 4) = true → act.eval (.tmp d2) = U.v2 D) ∧ (L (k + 9) = true → act.eval (.tmp dC) = U.v2 D)
    ∧ (L (k + 5) = true → ∀ b, act.eval (.tmp dA) = .pointer (some ⟨b, 0, none⟩) → U.off D b ∧ (L (k + 7) = true → U.sa D u b))
    ∧ (L (k + 6) = true → ∀ b, act.eval (.tmp dB) = .pointer (some ⟨b, 0, none⟩) → U.off D b ∧ (L (k + 8) = true → U.sb D u b))
theorem put_other {ds : List (Option Nat)} (ho : onceB ds = true) {i j t t' : Nat} (hi : ds[i]? = some (some t)) (hj : ds[j]? = some (some t')) (hne : j ≠ i) (v : Value) (act : Act) : (act.put (some t) v).eval (.tmp t') = act.eval (.tmp t') :=
  eval_put_ne (fun e => once_ne ho j i t' t hj hi hne (Option.some.inj e).symm)
set_option maxHeartbeats 4000000 in
theorem region_u {δ : Type} {U : Upd δ} (ok : UpdOk U) {F : Fence} {n : Nat} {P : Program} {ops : Array Oper} {Q : Exit → Act → World → Prop} {a : Act} {W : World} {id : Nat} (hm : P.follows .mixedOrders = true) (ds : List (Option Nat)) (k : Nat) (hw : wellU ops ds k = true)
    (hsz0 : ds.all (fun d => match d with | some t => Nat.blt t a.tmps.size | none => true) = true) (t0 tm d0 d1 d2 dA dB dC : Nat) (hds : ds.drop k = [some t0, some tm, some d0, some d1, some d2, some dA, some dB, none, none, some dC])
    (facts : Nat → Value → World → Prop) (mono : ∀ j v u u', Bl u u' → facts j v u → facts j v u')
    (step : ∀ (j : Nat) (o : Oper) (t : Nat) (act : Act) (u : World), j < k → ops[j]? = some o → o.dst = some t → act.tmps.size = a.tmps.size → Bl W u → (∀ t, some t ∉ ds → act.eval (.tmp t) = a.eval (.tmp t)) → (∀ e ∈ o.after, Region.binds .any e = true → ∀ t, ds[e.on]? = some (some t) → facts e.on (act.eval (.tmp t)) u) →
      Oper.wpIn F n P o act u (fun act' u' => ∃ v, act' = act.put (some t) v ∧ facts j v u' ∧ Bl u u') Q)
    (call : ∀ (o : Oper) (act : Act) (u : World), ops[k]? = some o → act.tmps.size = a.tmps.size → Bl W u → (∀ t, some t ∉ ds → act.eval (.tmp t) = a.eval (.tmp t)) → (∀ e ∈ o.after, Region.binds .any e = true → ∀ t, ds[e.on]? = some (some t) → facts e.on (act.eval (.tmp t)) u) →
      Oper.wpIn F n P o act u (fun act' u' => ∃ D, act' = act.put (some t0) (.tuple #[U.v0 D, U.v1 D, U.v2 D]) ∧ U.dat D u' ∧ Bl u u' ∧ ∀ b, b < u.heap.size → W.heap.size ≤ b → U.off D b) Q)
    (mv : ∀ (o : Oper) (act : Act) (u : World) (x : Value), ops[k + 1]? = some o → act.eval (.tmp t0) = x → Oper.wpIn F n P o act u (fun act' u' => act' = act.put (some tm) x ∧ u' = u) Q)
    (x0 : ∀ (o : Oper) (act : Act) (u : World) (x y z : Value), ops[k + 2]? = some o → act.eval (.tmp tm) = .tuple #[x, y, z] → Oper.wpIn F n P o act u (fun act' u' => act' = act.put (some d0) x ∧ u' = u) Q)
    (x1 : ∀ (o : Oper) (act : Act) (u : World) (x y z : Value), ops[k + 3]? = some o → act.eval (.tmp tm) = .tuple #[x, y, z] → Oper.wpIn F n P o act u (fun act' u' => act' = act.put (some d1) y ∧ u' = u) Q)
    (x2 : ∀ (o : Oper) (act : Act) (u : World) (x y z : Value), ops[k + 4]? = some o → act.eval (.tmp tm) = .tuple #[x, y, z] → Oper.wpIn F n P o act u (fun act' u' => act' = act.put (some d2) z ∧ u' = u) Q)
    (la : ∀ (o : Oper) (act : Act) (u : World), ops[k + 5]? = some o → Oper.wpIn F n P o act u (fun act' u' => act' = act.put (some dA) (.pointer (some ⟨u.heap.size, 0, none⟩)) ∧ U.za u' u.heap.size ∧ Bl u u' ∧ u.heap.size < u'.heap.size) Q)
    (lb : ∀ (o : Oper) (act : Act) (u : World), ops[k + 6]? = some o → Oper.wpIn F n P o act u (fun act' u' => act' = act.put (some dB) (.pointer (some ⟨u.heap.size, 0, none⟩)) ∧ U.zb u' u.heap.size ∧ Bl u u' ∧ u.heap.size < u'.heap.size) Q)
    (sa : ∀ (o : Oper) (act : Act) (u : World) (D : δ) (b : Nat), ops[k + 7]? = some o → act.eval (.tmp dA) = .pointer (some ⟨b, 0, none⟩) → act.eval (.tmp d0) = U.v0 D → U.za u b → U.dat D u → U.off D b → Bl W u → W.heap.size ≤ b →
      Oper.wpIn F n P o act u (fun act' u' => act' = act ∧ U.sa D u' b ∧ U.dat D u' ∧ Bl W u' ∧ (∀ b', b' ≠ b → u'.heap[b']? = u.heap[b']?) ∧ u.heap.size ≤ u'.heap.size) Q)
    (sb : ∀ (o : Oper) (act : Act) (u : World) (D : δ) (b : Nat), ops[k + 8]? = some o → act.eval (.tmp dB) = .pointer (some ⟨b, 0, none⟩) → act.eval (.tmp d1) = U.v1 D → U.zb u b → U.dat D u → U.off D b → Bl W u → W.heap.size ≤ b →
      Oper.wpIn F n P o act u (fun act' u' => act' = act ∧ U.sb D u' b ∧ U.dat D u' ∧ Bl W u' ∧ (∀ b', b' ≠ b → u'.heap[b']? = u.heap[b']?) ∧ u.heap.size ≤ u'.heap.size) Q)
    (asg : ∀ (o : Oper) (act : Act) (u : World) (x : Value), ops[k + 9]? = some o → act.eval (.tmp d2) = x → Oper.wpIn F n P o act u (fun act' u' => act' = act.put (some dC) x ∧ u' = u) Q)
    (fin : ∀ (vs : Nat → Value) (u : World) (D : δ) (b1 b2 : Nat), Bl W u → vs (k + 9) = U.v2 D → vs (k + 5) = .pointer (some ⟨b1, 0, none⟩) → vs (k + 6) = .pointer (some ⟨b2, 0, none⟩) → W.heap.size ≤ b1 → W.heap.size ≤ b2 → U.sa D u b1 → U.sb D u b2 → U.dat D u → Q .normal (putL ds vs 0 a) u) :
    (Code.region id ops true).wpIn F n P Q a W := by
  simp only [wellU, Bool.and_eq_true] at hw
  obtain ⟨⟨⟨⟨⟨⟨⟨⟨⟨⟨⟨⟨⟨⟨⟨⟨hlow, honce⟩, hlen⟩, hos⟩, hall'⟩, hused⟩, hsome⟩, e10⟩, e21⟩, e31⟩, e41⟩, e75⟩, e72⟩, e86⟩, e83⟩, e87⟩, e94⟩ := hw
  have hos' : ops.size = k + 10 := by simpa using hos
  have hlen' : ds.length = ops.size := by simpa using hlen
  have key : ∀ (j : Nat) (o : Oper), ops[j]? = some o → o.guard = none ∧ ds[j]? = some o.dst := fun j o ho => by
    have := List.all_eq_true.1 hall' j (by simpa using (Array.getElem?_eq_some_iff.1 ho).1)
    rw [ho] at this
    simpa using this
  have hsz : ∀ t, some t ∈ ds → t < a.tmps.size := fun t ht => by have := List.all_eq_true.1 hsz0 _ ht; rw [Nat.blt_eq] at this; exact this
  have dk : ∀ i, ds[k + i]? = ([some t0, some tm, some d0, some d1, some d2, some dA, some dB, none, none, some dC] : List (Option Nat))[i]? := fun i => by rw [← hds, List.getElem?_drop]
  have k0 : ds[k]? = some (some t0) := dk 0
  have k1 : ds[k + 1]? = some (some tm) := dk 1
  have k2 : ds[k + 2]? = some (some d0) := dk 2
  have k3 : ds[k + 3]? = some (some d1) := dk 3
  have k4 : ds[k + 4]? = some (some d2) := dk 4
  have k5 : ds[k + 5]? = some (some dA) := dk 5
  have k6 : ds[k + 6]? = some (some dB) := dk 6
  have k7 : ds[k + 7]? = some none := dk 7
  have k8 : ds[k + 8]? = some none := dk 8
  have k9 : ds[k + 9]? = some (some dC) := dk 9
  refine region_facts2 hm (lowB2_low hlow) (IU U W a ops ds k t0 tm d0 d1 d2 dA dB dC facts) ?_ ?_ ?_
  · exact ⟨rfl, rfl, fun _ _ => rfl, (by intro _ _ _ h; cases h), (Bl.refl _).drew, (by intro _ _ _ _ h; cases h), (by intro h; cases h), (by intro h; cases h), (by intro h; cases h)⟩
  · intro L act u i o hI ho hLi hall
    have hil : i < k + 10 := by have := (Array.getElem?_eq_some_iff.1 ho).1; omega
    refine step_wp ho (key i o ho).1 ?_
    have hdi := (key i o ho).2
    have hfr : ∀ t, some t ∉ ds → act.eval (.tmp t) = a.eval (.tmp t) := fun t ht => hI.frame t (fun j _ e => ht (List.mem_of_getElem? e))
    have shut' : ∀ (j : Nat) (o' : Oper), ops[j]? = some o' → (L j || (j == i)) = true → ∀ e ∈ o'.after, Region.binds .any e = true → (L e.on || (e.on == i)) = true := fun j o' ho' hj e he hb => by
      rw [Bool.or_eq_true] at hj
      rcases hj with hj | hj
      · rw [hI.shut j o' ho' hj e he hb]; rfl
      · obtain rfl : j = i := by simpa using hj
        rw [ho] at ho'
        cases ho'
        rw [hall e he hb]; rfl
    have frame' : ∀ (t : Nat) v, o.dst = some t → ∀ t', (∀ j, (L j || (j == i)) = true → ds[j]? ≠ some (some t')) → (act.put (some t) v).eval (.tmp t') = a.eval (.tmp t') := fun t v hd t' h => by
      rw [eval_put_ne (fun e => h i (by simp) (by rw [hdi, hd, e]))]
      exact hI.frame t' (fun j hj => h j (by rw [hj]; rfl))
    have frame0 : ∀ t', (∀ j, (L j || (j == i)) = true → ds[j]? ≠ some (some t')) → act.eval (.tmp t') = a.eval (.tmp t') := fun t' h => hI.frame t' (fun j hj => h j (by rw [hj]; rfl))
    have waits : ∀ j, edgeB ops i j = true → L j = true := fun j h => by
      obtain ⟨o', e, ho', he, hej, hb⟩ := edge_of h
      rw [ho] at ho'
      cases ho'
      rw [← hej]
      exact hall e he hb
    have done : ∀ x y, edgeB ops x y = true → L x = true → L y = true := fun x y h hx => by
      obtain ⟨o', e, ho', he, hej, hb⟩ := edge_of h
      rw [← hej]
      exact hI.shut x o' ho' hx e he hb
    have ohter : ∀ (t : Nat) (v : Value) (j t' : Nat), ds[i]? = some (some t) → ds[j]? = some (some t') → j ≠ i → (act.put (some t) v).eval (.tmp t') = act.eval (.tmp t') := fun t v j t' h1 h2 h3 => put_other honce h1 h2 h3 v act
    have same : ∀ (t : Nat) (v : Value), ds[i]? = some (some t) → (act.put (some t) v).eval (.tmp t) = v := fun t v h => eval_put_same (by rw [hI.size]; exact hsz t (List.mem_of_getElem? h))
    have lt' : ∀ x, x ≠ i → (L x || (x == i)) = L x := fun x hx => by rw [show (x == i) = false by simpa using hx, Bool.or_false]
    have ii : (L i || (i == i)) = true := by simp
    rcases Nat.lt_or_ge i k with hik | hik
    · -- before the call
      have hk0 : L k = false := by
        cases hh : L k with
        | false => rfl
        | true =>
          have clos : ∀ m j, k - j ≤ m → j < k → L j = true := by
            intro m
            induction m with
            | zero => intro j h1 h2; omega
            | succ m ih =>
              intro j h1 h2
              have h3 := List.all_eq_true.1 hused j (by simpa using h2)
              simp only [List.any_eq_true, Bool.and_eq_true, decide_eq_true_eq, List.mem_range] at h3
              obtain ⟨x, hx, hjx, he⟩ := h3
              refine done x j he ?_
              by_cases e : x = k
              · rw [e]; exact hh
              · exact ih x (by omega) (by omega)
          rw [clos (k - i) i (Nat.le_refl _) hik] at hLi
          cases hLi
      have hd : ∃ t, o.dst = some t := by
        have h3 := List.all_eq_true.1 hsome i (by simpa using hik)
        rw [hdi] at h3
        cases hd : o.dst with
        | some t => exact ⟨t, rfl⟩
        | none => rw [hd] at h3; cases h3
      obtain ⟨t, hd⟩ := hd
      have hdt : ds[i]? = some (some t) := by rw [hdi, hd]
      refine Oper.wpIn_mono ?_ (step i o t act u hik ho hd hI.size hI.bl hfr (fun e he hb t' ht' => hI.pre hk0 e.on t' (by have := lowB2_low hlow i o ho e he hb; omega) (hall e he hb) ht'))
      rintro act' u' ⟨v, rfl, hf, hb⟩
      refine ⟨by rw [size_put]; exact hI.size, by rw [defers_put]; exact hI.defers, frame' t v hd, shut', hI.bl.trans hb, fun _ j t' hj hL hdj => ?_, fun h => ?_, fun h => ?_, fun h => ?_⟩
      · by_cases e : j = i
        · subst e
          rw [hdt] at hdj
          cases hdj
          rw [same t v hdt]
          exact hf
        · rw [ohter t v j t' hdt hdj e]
          rw [lt' j e] at hL
          exact mono j _ u u' hb (hI.pre hk0 j t' hj hL hdj)
      · rw [lt' _ (by omega)] at h
        obtain ⟨b, h1, h2, h3, h4⟩ := hI.A h
        refine ⟨b, by rw [ohter t v _ _ hdt k5 (by omega)]; exact h1, h2, Nat.lt_of_lt_of_le h3 hb.size, fun h5 => ?_⟩
        rw [lt' _ (by omega)] at h5
        exact ok.za_heap u u' b (h4 h5) h3 (Below.block hb b h3) hb.size
      · rw [lt' _ (by omega)] at h
        obtain ⟨b, h1, h2, h3, h4⟩ := hI.B h
        refine ⟨b, by rw [ohter t v _ _ hdt k6 (by omega)]; exact h1, h2, Nat.lt_of_lt_of_le h3 hb.size, fun h5 => ?_⟩
        rw [lt' _ (by omega)] at h5
        exact ok.zb_heap u u' b (h4 h5) h3 (Below.block hb b h3) hb.size
      · rw [lt' _ (by omega), hk0] at h
        cases h
    · skip
      have hcase : i = k ∨ i = k + 1 ∨ i = k + 2 ∨ i = k + 3 ∨ i = k + 4 ∨ i = k + 5 ∨ i = k + 6 ∨ i = k + 7 ∨ i = k + 8 ∨ i = k + 9 := by omega
      have fls : ∀ x, (L x = true → False) → L x = false := fun x h => by cases hh : L x with | false => rfl | true => exact (h hh).elim
      have no : ∀ x, L i = true → x := fun x h => by rw [h] at hLi; cases hLi
      have to0 : L (k + 1) = true → L k = true := done _ _ e10
      have to21 : L (k + 2) = true → L k = true := fun h => to0 (done _ _ e21 h)
      have to31 : L (k + 3) = true → L k = true := fun h => to0 (done _ _ e31 h)
      have to41 : L (k + 4) = true → L k = true := fun h => to0 (done _ _ e41 h)
      rcases hcase with rfl | rfl | rfl | rfl | rfl | rfl | rfl | rfl | rfl | rfl
      · -- the call
        have n1 : L (i + 1) = false := fls _ fun h => no _ (to0 h)
        have n2 : L (i + 2) = false := fls _ fun h => no _ (to21 h)
        have n3 : L (i + 3) = false := fls _ fun h => no _ (to31 h)
        have n4 : L (i + 4) = false := fls _ fun h => no _ (to41 h)
        have n7 : L (i + 7) = false := fls _ fun h => no _ (to21 (done _ _ e72 h))
        have n8 : L (i + 8) = false := fls _ fun h => no _ (to31 (done _ _ e83 h))
        have n9 : L (i + 9) = false := fls _ fun h => no _ (to41 (done _ _ e94 h))
        have hd : o.dst = some t0 := by rw [hdi] at k0; exact Option.some.inj k0
        refine Oper.wpIn_mono ?_ (call o act u ho hI.size hI.bl hfr (fun e he hb t' ht' => hI.pre hLi e.on t' (lowB2_low hlow i o ho e he hb) (hall e he hb) ht'))
        rintro act' u' ⟨D, rfl, hdat, hb, hoff⟩
        refine ⟨by rw [size_put]; exact hI.size, by rw [defers_put]; exact hI.defers, frame' t0 _ hd, shut', hI.bl.trans hb, fun h => (by rw [ii] at h; cases h), fun h => ?_, fun h => ?_, fun _ => ⟨D, same _ _ k0, hdat, fun h => ?_, fun h => ?_, fun h => ?_, fun h => ?_, fun h => ?_, fun h b hb1 => ?_, fun h b hb1 => ?_⟩⟩
        · rw [lt' _ (by omega)] at h
          obtain ⟨b, h1, h2, h3, h4⟩ := hI.A h
          exact ⟨b, by rw [ohter _ _ _ _ k0 k5 (by omega)]; exact h1, h2, Nat.lt_of_lt_of_le h3 hb.size, fun _ => ok.za_heap u u' b (h4 n7) h3 (Below.block hb b h3) hb.size⟩
        · rw [lt' _ (by omega)] at h
          obtain ⟨b, h1, h2, h3, h4⟩ := hI.B h
          exact ⟨b, by rw [ohter _ _ _ _ k0 k6 (by omega)]; exact h1, h2, Nat.lt_of_lt_of_le h3 hb.size, fun _ => ok.zb_heap u u' b (h4 n8) h3 (Below.block hb b h3) hb.size⟩
        · rw [lt' _ (by omega), n1] at h; cases h
        · rw [lt' _ (by omega), n2] at h; cases h
        · rw [lt' _ (by omega), n3] at h; cases h
        · rw [lt' _ (by omega), n4] at h; cases h
        · rw [lt' _ (by omega), n9] at h; cases h
        · rw [lt' _ (by omega)] at h
          obtain ⟨b', h1, h2, h3, h4⟩ := hI.A h
          rw [ohter _ _ _ _ k0 k5 (by omega), h1] at hb1
          cases hb1
          exact ⟨hoff b h3 h2, fun h7 => by rw [lt' _ (by omega), n7] at h7; cases h7⟩
        · rw [lt' _ (by omega)] at h
          obtain ⟨b', h1, h2, h3, h4⟩ := hI.B h
          rw [ohter _ _ _ _ k0 k6 (by omega), h1] at hb1
          cases hb1
          exact ⟨hoff b h3 h2, fun h7 => by rw [lt' _ (by omega), n8] at h7; cases h7⟩
      · have hLk : L k = true := waits _ e10
        obtain ⟨D, p0, pd, p1, p2, p3, p4, p9, pA, pB⟩ := hI.post hLk
        have hx := p0
        have hd : o.dst = some tm := by rw [hdi] at k1; exact Option.some.inj k1
        refine Oper.wpIn_mono ?_ (mv o act u _ ho hx)
        rintro act' u' ⟨rfl, rfl⟩
        refine ⟨by rw [size_put]; exact hI.size, by rw [defers_put]; exact hI.defers, frame' tm _ hd, shut', hI.bl, fun h => (by rw [lt' _ (by omega), hLk] at h; cases h), fun h => ?_, fun h => ?_, fun _ => ⟨D, by rw [ohter _ _ _ _ k1 k0 (by omega)]; exact p0, pd, fun h => ?_, fun h => ?_, fun h => ?_, fun h => ?_, fun h => ?_, fun h b hb1 => ?_, fun h b hb1 => ?_⟩⟩
        · rw [lt' _ (by omega)] at h
          obtain ⟨b, h1, h2, h3, h4⟩ := hI.A h
          exact ⟨b, by rw [ohter _ _ _ _ k1 k5 (by omega)]; exact h1, h2, h3, fun h5 => h4 (by rw [lt' _ (by omega)] at h5; exact h5)⟩
        · rw [lt' _ (by omega)] at h
          obtain ⟨b, h1, h2, h3, h4⟩ := hI.B h
          exact ⟨b, by rw [ohter _ _ _ _ k1 k6 (by omega)]; exact h1, h2, h3, fun h5 => h4 (by rw [lt' _ (by omega)] at h5; exact h5)⟩
        · exact same _ _ k1
        · rw [lt' _ (by omega)] at h
          rw [ohter _ _ _ _ k1 k2 (by omega)]
          exact p2 h
        · rw [lt' _ (by omega)] at h
          rw [ohter _ _ _ _ k1 k3 (by omega)]
          exact p3 h
        · rw [lt' _ (by omega)] at h
          rw [ohter _ _ _ _ k1 k4 (by omega)]
          exact p4 h
        · rw [lt' _ (by omega)] at h
          rw [ohter _ _ _ _ k1 k9 (by omega)]
          exact p9 h
        · rw [lt' _ (by omega)] at h
          rw [ohter _ _ _ _ k1 k5 (by omega)] at hb1
          obtain ⟨q1, q2⟩ := pA h b hb1
          exact ⟨q1, fun h7 => q2 (by rw [lt' _ (by omega)] at h7; exact h7)⟩
        · rw [lt' _ (by omega)] at h
          rw [ohter _ _ _ _ k1 k6 (by omega)] at hb1
          obtain ⟨q1, q2⟩ := pB h b hb1
          exact ⟨q1, fun h7 => q2 (by rw [lt' _ (by omega)] at h7; exact h7)⟩
      · have hLk : L k = true := to0 (waits _ e21)
        obtain ⟨D, p0, pd, p1, p2, p3, p4, p9, pA, pB⟩ := hI.post hLk
        have hx := p1 (waits _ e21)
        have hd : o.dst = some d0 := by rw [hdi] at k2; exact Option.some.inj k2
        refine Oper.wpIn_mono ?_ (x0 o act u _ _ _ ho hx)
        rintro act' u' ⟨rfl, rfl⟩
        refine ⟨by rw [size_put]; exact hI.size, by rw [defers_put]; exact hI.defers, frame' d0 _ hd, shut', hI.bl, fun h => (by rw [lt' _ (by omega), hLk] at h; cases h), fun h => ?_, fun h => ?_, fun _ => ⟨D, by rw [ohter _ _ _ _ k2 k0 (by omega)]; exact p0, pd, fun h => ?_, fun h => ?_, fun h => ?_, fun h => ?_, fun h => ?_, fun h b hb1 => ?_, fun h b hb1 => ?_⟩⟩
        · rw [lt' _ (by omega)] at h
          obtain ⟨b, h1, h2, h3, h4⟩ := hI.A h
          exact ⟨b, by rw [ohter _ _ _ _ k2 k5 (by omega)]; exact h1, h2, h3, fun h5 => h4 (by rw [lt' _ (by omega)] at h5; exact h5)⟩
        · rw [lt' _ (by omega)] at h
          obtain ⟨b, h1, h2, h3, h4⟩ := hI.B h
          exact ⟨b, by rw [ohter _ _ _ _ k2 k6 (by omega)]; exact h1, h2, h3, fun h5 => h4 (by rw [lt' _ (by omega)] at h5; exact h5)⟩
        · rw [lt' _ (by omega)] at h
          rw [ohter _ _ _ _ k2 k1 (by omega)]
          exact p1 h
        · exact same _ _ k2
        · rw [lt' _ (by omega)] at h
          rw [ohter _ _ _ _ k2 k3 (by omega)]
          exact p3 h
        · rw [lt' _ (by omega)] at h
          rw [ohter _ _ _ _ k2 k4 (by omega)]
          exact p4 h
        · rw [lt' _ (by omega)] at h
          rw [ohter _ _ _ _ k2 k9 (by omega)]
          exact p9 h
        · rw [lt' _ (by omega)] at h
          rw [ohter _ _ _ _ k2 k5 (by omega)] at hb1
          obtain ⟨q1, q2⟩ := pA h b hb1
          exact ⟨q1, fun h7 => q2 (by rw [lt' _ (by omega)] at h7; exact h7)⟩
        · rw [lt' _ (by omega)] at h
          rw [ohter _ _ _ _ k2 k6 (by omega)] at hb1
          obtain ⟨q1, q2⟩ := pB h b hb1
          exact ⟨q1, fun h7 => q2 (by rw [lt' _ (by omega)] at h7; exact h7)⟩
      · have hLk : L k = true := to0 (waits _ e31)
        obtain ⟨D, p0, pd, p1, p2, p3, p4, p9, pA, pB⟩ := hI.post hLk
        have hx := p1 (waits _ e31)
        have hd : o.dst = some d1 := by rw [hdi] at k3; exact Option.some.inj k3
        refine Oper.wpIn_mono ?_ (x1 o act u _ _ _ ho hx)
        rintro act' u' ⟨rfl, rfl⟩
        refine ⟨by rw [size_put]; exact hI.size, by rw [defers_put]; exact hI.defers, frame' d1 _ hd, shut', hI.bl, fun h => (by rw [lt' _ (by omega), hLk] at h; cases h), fun h => ?_, fun h => ?_, fun _ => ⟨D, by rw [ohter _ _ _ _ k3 k0 (by omega)]; exact p0, pd, fun h => ?_, fun h => ?_, fun h => ?_, fun h => ?_, fun h => ?_, fun h b hb1 => ?_, fun h b hb1 => ?_⟩⟩
        · rw [lt' _ (by omega)] at h
          obtain ⟨b, h1, h2, h3, h4⟩ := hI.A h
          exact ⟨b, by rw [ohter _ _ _ _ k3 k5 (by omega)]; exact h1, h2, h3, fun h5 => h4 (by rw [lt' _ (by omega)] at h5; exact h5)⟩
        · rw [lt' _ (by omega)] at h
          obtain ⟨b, h1, h2, h3, h4⟩ := hI.B h
          exact ⟨b, by rw [ohter _ _ _ _ k3 k6 (by omega)]; exact h1, h2, h3, fun h5 => h4 (by rw [lt' _ (by omega)] at h5; exact h5)⟩
        · rw [lt' _ (by omega)] at h
          rw [ohter _ _ _ _ k3 k1 (by omega)]
          exact p1 h
        · rw [lt' _ (by omega)] at h
          rw [ohter _ _ _ _ k3 k2 (by omega)]
          exact p2 h
        · exact same _ _ k3
        · rw [lt' _ (by omega)] at h
          rw [ohter _ _ _ _ k3 k4 (by omega)]
          exact p4 h
        · rw [lt' _ (by omega)] at h
          rw [ohter _ _ _ _ k3 k9 (by omega)]
          exact p9 h
        · rw [lt' _ (by omega)] at h
          rw [ohter _ _ _ _ k3 k5 (by omega)] at hb1
          obtain ⟨q1, q2⟩ := pA h b hb1
          exact ⟨q1, fun h7 => q2 (by rw [lt' _ (by omega)] at h7; exact h7)⟩
        · rw [lt' _ (by omega)] at h
          rw [ohter _ _ _ _ k3 k6 (by omega)] at hb1
          obtain ⟨q1, q2⟩ := pB h b hb1
          exact ⟨q1, fun h7 => q2 (by rw [lt' _ (by omega)] at h7; exact h7)⟩
      · have hLk : L k = true := to0 (waits _ e41)
        obtain ⟨D, p0, pd, p1, p2, p3, p4, p9, pA, pB⟩ := hI.post hLk
        have hx := p1 (waits _ e41)
        have hd : o.dst = some d2 := by rw [hdi] at k4; exact Option.some.inj k4
        refine Oper.wpIn_mono ?_ (x2 o act u _ _ _ ho hx)
        rintro act' u' ⟨rfl, rfl⟩
        refine ⟨by rw [size_put]; exact hI.size, by rw [defers_put]; exact hI.defers, frame' d2 _ hd, shut', hI.bl, fun h => (by rw [lt' _ (by omega), hLk] at h; cases h), fun h => ?_, fun h => ?_, fun _ => ⟨D, by rw [ohter _ _ _ _ k4 k0 (by omega)]; exact p0, pd, fun h => ?_, fun h => ?_, fun h => ?_, fun h => ?_, fun h => ?_, fun h b hb1 => ?_, fun h b hb1 => ?_⟩⟩
        · rw [lt' _ (by omega)] at h
          obtain ⟨b, h1, h2, h3, h4⟩ := hI.A h
          exact ⟨b, by rw [ohter _ _ _ _ k4 k5 (by omega)]; exact h1, h2, h3, fun h5 => h4 (by rw [lt' _ (by omega)] at h5; exact h5)⟩
        · rw [lt' _ (by omega)] at h
          obtain ⟨b, h1, h2, h3, h4⟩ := hI.B h
          exact ⟨b, by rw [ohter _ _ _ _ k4 k6 (by omega)]; exact h1, h2, h3, fun h5 => h4 (by rw [lt' _ (by omega)] at h5; exact h5)⟩
        · rw [lt' _ (by omega)] at h
          rw [ohter _ _ _ _ k4 k1 (by omega)]
          exact p1 h
        · rw [lt' _ (by omega)] at h
          rw [ohter _ _ _ _ k4 k2 (by omega)]
          exact p2 h
        · rw [lt' _ (by omega)] at h
          rw [ohter _ _ _ _ k4 k3 (by omega)]
          exact p3 h
        · exact same _ _ k4
        · rw [lt' _ (by omega)] at h
          rw [ohter _ _ _ _ k4 k9 (by omega)]
          exact p9 h
        · rw [lt' _ (by omega)] at h
          rw [ohter _ _ _ _ k4 k5 (by omega)] at hb1
          obtain ⟨q1, q2⟩ := pA h b hb1
          exact ⟨q1, fun h7 => q2 (by rw [lt' _ (by omega)] at h7; exact h7)⟩
        · rw [lt' _ (by omega)] at h
          rw [ohter _ _ _ _ k4 k6 (by omega)] at hb1
          obtain ⟨q1, q2⟩ := pB h b hb1
          exact ⟨q1, fun h7 => q2 (by rw [lt' _ (by omega)] at h7; exact h7)⟩
      · have nS : L (k + 7) = false := fls _ fun h => no _ (done _ _ e75 h)
        have hd : o.dst = some dA := by rw [hdi] at k5; exact Option.some.inj k5
        refine Oper.wpIn_mono ?_ (la o act u ho)
        rintro act' u' ⟨rfl, hz, hb, hlt⟩
        refine ⟨by rw [size_put]; exact hI.size, by rw [defers_put]; exact hI.defers, frame' dA _ hd, shut', hI.bl.trans hb, fun h j t' hj hL hdj => ?_, fun _ => ⟨u.heap.size, same _ _ k5, hI.bl.size, hlt, fun _ => hz⟩, fun h => ?_, fun h => ?_⟩
        · rw [lt' _ (by omega)] at h
          rw [lt' _ (by omega)] at hL
          rw [ohter _ _ _ _ k5 hdj (by omega)]
          exact mono j _ u u' hb (hI.pre h j t' hj hL hdj)
        · rw [lt' _ (by omega)] at h
          obtain ⟨b, h1, h2, h3, h4⟩ := hI.B h
          refine ⟨b, by rw [ohter _ _ _ _ k5 k6 (by omega)]; exact h1, h2, Nat.lt_of_lt_of_le h3 hb.size, fun h5 => ?_⟩
          rw [lt' _ (by omega)] at h5
          exact ok.zb_heap u u' b (h4 h5) h3 (Below.block hb b h3) hb.size
        · rw [lt' _ (by omega)] at h
          obtain ⟨D, p0, pd, p1, p2, p3, p4, p9, pA, pB⟩ := hI.post h
          refine ⟨D, by rw [ohter _ _ _ _ k5 k0 (by omega)]; exact p0, ok.dat_bl D u u' pd hb, fun h => ?_, fun h => ?_, fun h => ?_, fun h => ?_, fun h => ?_, fun h b hb1 => ?_, fun h b hb1 => ?_⟩
          · rw [lt' _ (by omega)] at h; rw [ohter _ _ _ _ k5 k1 (by omega)]; exact p1 h
          · rw [lt' _ (by omega)] at h; rw [ohter _ _ _ _ k5 k2 (by omega)]; exact p2 h
          · rw [lt' _ (by omega)] at h; rw [ohter _ _ _ _ k5 k3 (by omega)]; exact p3 h
          · rw [lt' _ (by omega)] at h; rw [ohter _ _ _ _ k5 k4 (by omega)]; exact p4 h
          · rw [lt' _ (by omega)] at h; rw [ohter _ _ _ _ k5 k9 (by omega)]; exact p9 h
          · rw [same _ _ k5] at hb1
            cases hb1
            exact ⟨ok.dat_off D u _ pd (Nat.le_refl _), fun h7 => by rw [lt' _ (by omega), nS] at h7; cases h7⟩
          · rw [lt' _ (by omega)] at h
            rw [ohter _ _ _ _ k5 k6 (by omega)] at hb1
            obtain ⟨q1, q2⟩ := pB h b hb1
            obtain ⟨b', h1, h2, h3, h4⟩ := hI.B h
            rw [h1] at hb1
            cases hb1
            exact ⟨q1, fun h7 => ok.sb_heap D u u' b (q2 (by rw [lt' _ (by omega)] at h7; exact h7)) h3 (Below.block hb b h3) hb.size⟩
      · have nS : L (k + 8) = false := fls _ fun h => no _ (done _ _ e86 h)
        have hd : o.dst = some dB := by rw [hdi] at k6; exact Option.some.inj k6
        refine Oper.wpIn_mono ?_ (lb o act u ho)
        rintro act' u' ⟨rfl, hz, hb, hlt⟩
        refine ⟨by rw [size_put]; exact hI.size, by rw [defers_put]; exact hI.defers, frame' dB _ hd, shut', hI.bl.trans hb, fun h j t' hj hL hdj => ?_, fun h => ?_, fun _ => ⟨u.heap.size, same _ _ k6, hI.bl.size, hlt, fun _ => hz⟩, fun h => ?_⟩
        · rw [lt' _ (by omega)] at h
          rw [lt' _ (by omega)] at hL
          rw [ohter _ _ _ _ k6 hdj (by omega)]
          exact mono j _ u u' hb (hI.pre h j t' hj hL hdj)
        · rw [lt' _ (by omega)] at h
          obtain ⟨b, h1, h2, h3, h4⟩ := hI.A h
          refine ⟨b, by rw [ohter _ _ _ _ k6 k5 (by omega)]; exact h1, h2, Nat.lt_of_lt_of_le h3 hb.size, fun h5 => ?_⟩
          rw [lt' _ (by omega)] at h5
          exact ok.za_heap u u' b (h4 h5) h3 (Below.block hb b h3) hb.size
        · rw [lt' _ (by omega)] at h
          obtain ⟨D, p0, pd, p1, p2, p3, p4, p9, pA, pB⟩ := hI.post h
          refine ⟨D, by rw [ohter _ _ _ _ k6 k0 (by omega)]; exact p0, ok.dat_bl D u u' pd hb, fun h => ?_, fun h => ?_, fun h => ?_, fun h => ?_, fun h => ?_, fun h b hb1 => ?_, fun h b hb1 => ?_⟩
          · rw [lt' _ (by omega)] at h; rw [ohter _ _ _ _ k6 k1 (by omega)]; exact p1 h
          · rw [lt' _ (by omega)] at h; rw [ohter _ _ _ _ k6 k2 (by omega)]; exact p2 h
          · rw [lt' _ (by omega)] at h; rw [ohter _ _ _ _ k6 k3 (by omega)]; exact p3 h
          · rw [lt' _ (by omega)] at h; rw [ohter _ _ _ _ k6 k4 (by omega)]; exact p4 h
          · rw [lt' _ (by omega)] at h; rw [ohter _ _ _ _ k6 k9 (by omega)]; exact p9 h
          · rw [lt' _ (by omega)] at h
            rw [ohter _ _ _ _ k6 k5 (by omega)] at hb1
            obtain ⟨q1, q2⟩ := pA h b hb1
            obtain ⟨b', h1, h2, h3, h4⟩ := hI.A h
            rw [h1] at hb1
            cases hb1
            exact ⟨q1, fun h7 => ok.sa_heap D u u' b (q2 (by rw [lt' _ (by omega)] at h7; exact h7)) h3 (Below.block hb b h3) hb.size⟩
          · rw [same _ _ k6] at hb1
            cases hb1
            exact ⟨ok.dat_off D u _ pd (Nat.le_refl _), fun h7 => by rw [lt' _ (by omega), nS] at h7; cases h7⟩
      · -- the first store
        have hLk : L k = true := to21 (waits _ e72)
        have h5 : L (k + 5) = true := waits _ e75
        have n8 : L (k + 8) = false := fls _ fun h => no _ (done _ _ e87 h)
        obtain ⟨D, p0, pd, p1, p2, p3, p4, p9, pA, pB⟩ := hI.post hLk
        obtain ⟨b, h1, h2, h3, h4⟩ := hI.A h5
        have hoff := (pA h5 b h1).1
        have hz := h4 hLi
        refine Oper.wpIn_mono ?_ (sa o act u D b ho h1 (p2 (waits _ e72)) hz pd hoff hI.bl h2)
        rintro act' u' ⟨rfl, hs, hdat, hbl, hne, hsz'⟩
        refine ⟨hI.size, hI.defers, frame0, shut', hbl, fun h => (by rw [lt' _ (by omega), hLk] at h; cases h), fun _ => ⟨b, h1, h2, Nat.lt_of_lt_of_le h3 hsz', fun h => by rw [ii] at h; cases h⟩, fun h => ?_, fun _ => ⟨D, p0, hdat, fun h => p1 (by rw [lt' _ (by omega)] at h; exact h), fun h => p2 (by rw [lt' _ (by omega)] at h; exact h), fun h => p3 (by rw [lt' _ (by omega)] at h; exact h), fun h => p4 (by rw [lt' _ (by omega)] at h; exact h), fun h => p9 (by rw [lt' _ (by omega)] at h; exact h), fun h b' hb' => ?_, fun h b' hb' => ?_⟩⟩
        · rw [lt' _ (by omega)] at h
          obtain ⟨b2, g1, g2, g3, g4⟩ := hI.B h
          exact ⟨b2, g1, g2, Nat.lt_of_lt_of_le g3 hsz', fun _ => ok.zb_heap u u' b2 (g4 n8) g3 (hne b2 (fun e => ok.ne0 u b hz (by rw [← e]; exact g4 n8))) hsz'⟩
        · rw [h1] at hb'
          cases hb'
          exact ⟨hoff, fun _ => hs⟩
        · rw [lt' _ (by omega)] at h
          exact ⟨(pB h b' hb').1, fun h8 => by rw [lt' _ (by omega), n8] at h8; cases h8⟩
      · -- the second store
        have hLk : L k = true := to31 (waits _ e83)
        have h6 : L (k + 6) = true := waits _ e86
        have h7 : L (k + 7) = true := waits _ e87
        have h5 : L (k + 5) = true := done _ _ e75 h7
        obtain ⟨D, p0, pd, p1, p2, p3, p4, p9, pA, pB⟩ := hI.post hLk
        obtain ⟨b, h1, h2, h3, h4⟩ := hI.B h6
        obtain ⟨b1, g1, g2, g3, g4⟩ := hI.A h5
        have hoff := (pB h6 b h1).1
        have hz := h4 hLi
        obtain ⟨hoff1, hsa⟩ := pA h5 b1 g1
        refine Oper.wpIn_mono ?_ (sb o act u D b ho h1 (p3 (waits _ e83)) hz pd hoff hI.bl h2)
        rintro act' u' ⟨rfl, hs, hdat, hbl, hne, hsz'⟩
        have hb1 : b1 ≠ b := fun e => ok.ne2 D u b (by rw [← e]; exact hsa h7) hz
        refine ⟨hI.size, hI.defers, frame0, shut', hbl, fun h => (by rw [lt' _ (by omega), hLk] at h; cases h), fun _ => ⟨b1, g1, g2, Nat.lt_of_lt_of_le g3 hsz', fun h => by rw [lt' _ (by omega), h7] at h; cases h⟩, fun _ => ⟨b, h1, h2, Nat.lt_of_lt_of_le h3 hsz', fun h => by rw [ii] at h; cases h⟩, fun _ => ⟨D, p0, hdat, fun h => p1 (by rw [lt' _ (by omega)] at h; exact h), fun h => p2 (by rw [lt' _ (by omega)] at h; exact h), fun h => p3 (by rw [lt' _ (by omega)] at h; exact h), fun h => p4 (by rw [lt' _ (by omega)] at h; exact h), fun h => p9 (by rw [lt' _ (by omega)] at h; exact h), fun h b' hb' => ?_, fun h b' hb' => ?_⟩⟩
        · rw [g1] at hb'
          cases hb'
          exact ⟨hoff1, fun _ => ok.sa_heap D u u' b1 (hsa h7) g3 (hne b1 hb1) hsz'⟩
        · rw [h1] at hb'
          cases hb'
          exact ⟨hoff, fun _ => hs⟩
      · have hLk : L k = true := to41 (waits _ e94)
        obtain ⟨D, p0, pd, p1, p2, p3, p4, p9, pA, pB⟩ := hI.post hLk
        have hx := p4 (waits _ e94)
        have hd : o.dst = some dC := by rw [hdi] at k9; exact Option.some.inj k9
        refine Oper.wpIn_mono ?_ (asg o act u _ ho hx)
        rintro act' u' ⟨rfl, rfl⟩
        refine ⟨by rw [size_put]; exact hI.size, by rw [defers_put]; exact hI.defers, frame' dC _ hd, shut', hI.bl, fun h => (by rw [lt' _ (by omega), hLk] at h; cases h), fun h => ?_, fun h => ?_, fun _ => ⟨D, by rw [ohter _ _ _ _ k9 k0 (by omega)]; exact p0, pd, fun h => ?_, fun h => ?_, fun h => ?_, fun h => ?_, fun h => ?_, fun h b hb1 => ?_, fun h b hb1 => ?_⟩⟩
        · rw [lt' _ (by omega)] at h
          obtain ⟨b, h1, h2, h3, h4⟩ := hI.A h
          exact ⟨b, by rw [ohter _ _ _ _ k9 k5 (by omega)]; exact h1, h2, h3, fun h5 => h4 (by rw [lt' _ (by omega)] at h5; exact h5)⟩
        · rw [lt' _ (by omega)] at h
          obtain ⟨b, h1, h2, h3, h4⟩ := hI.B h
          exact ⟨b, by rw [ohter _ _ _ _ k9 k6 (by omega)]; exact h1, h2, h3, fun h5 => h4 (by rw [lt' _ (by omega)] at h5; exact h5)⟩
        · rw [lt' _ (by omega)] at h
          rw [ohter _ _ _ _ k9 k1 (by omega)]
          exact p1 h
        · rw [lt' _ (by omega)] at h
          rw [ohter _ _ _ _ k9 k2 (by omega)]
          exact p2 h
        · rw [lt' _ (by omega)] at h
          rw [ohter _ _ _ _ k9 k3 (by omega)]
          exact p3 h
        · rw [lt' _ (by omega)] at h
          rw [ohter _ _ _ _ k9 k4 (by omega)]
          exact p4 h
        · exact same _ _ k9
        · rw [lt' _ (by omega)] at h
          rw [ohter _ _ _ _ k9 k5 (by omega)] at hb1
          obtain ⟨q1, q2⟩ := pA h b hb1
          exact ⟨q1, fun h7 => q2 (by rw [lt' _ (by omega)] at h7; exact h7)⟩
        · rw [lt' _ (by omega)] at h
          rw [ohter _ _ _ _ k9 k6 (by omega)] at hb1
          obtain ⟨q1, q2⟩ := pB h b hb1
          exact ⟨q1, fun h7 => q2 (by rw [lt' _ (by omega)] at h7; exact h7)⟩
  · intro L act u hI hall
    have hL : ∀ j, j < k + 10 → L j = true := fun j h => hall j (by omega)
    have e : act = putL ds (fun j => act.eval (.tmp ((ds[j]?.getD none).getD 0))) 0 a := by
      refine act_ext (by rw [putL_size]; exact hI.size) (by rw [putL_defers]; exact hI.defers) fun t ht => ?_
      by_cases hm' : some t ∈ ds
      · obtain ⟨j, hj⟩ := List.getElem?_of_mem hm'
        rw [putL_at ds _ t j 0 a honce hj (by rw [← hI.size]; exact ht), Nat.zero_add, hj]
        rfl
      · rw [putL_other ds _ t 0 a (fun d hd e => hm' (by rw [← e]; exact hd))]
        exact hI.frame t (fun j _ e => hm' (List.mem_of_getElem? e))
    obtain ⟨D, p0, pd, p1, p2, p3, p4, p9, pA, pB⟩ := hI.post (hL k (by omega))
    obtain ⟨b1, h1, h2, h3, _⟩ := hI.A (hL _ (by omega))
    obtain ⟨b2, g1, g2, g3, _⟩ := hI.B (hL _ (by omega))
    rw [e]
    exact fin _ u D b1 b2 hI.bl (by simp only [k9]; exact p9 (hL _ (by omega))) (by simp only [k5]; exact h1) (by simp only [k6]; exact g1) h2 g2 ((pA (hL _ (by omega)) b1 h1).2 (hL _ (by omega))) ((pB (hL _ (by omega)) b2 g1).2 (hL _ (by omega))) pd
end Go.Proofs.YthnadgbloamlaaaGreat

/- What the laws of layer 9 use, of fractions. Written by genJo.py. -/
namespace Go.Proofs.YthnadgbloamlaaaGreat
open Go.RowKit
set_option linter.unusedSimpArgs false
set_option linter.unusedVariables false

theorem but4F (u : World) (b : Nat) (v0 v1 v2 v3 : Value) : But (fun i => i = b) u ((((u.setCell ⟨b, 0, none⟩ v0).setCell ⟨b, 1, none⟩ v1).setCell ⟨b, 2, none⟩ v2).setCell ⟨b, 3, none⟩ v3) := (((but_cell1 (S := fun i => i = b) rfl _ _ _).trans (but_cell1 (S := fun i => i = b) rfl _ _ _)).trans (but_cell1 (S := fun i => i = b) rfl _ _ _)).trans (but_cell1 (S := fun i => i = b) rfl _ _ _)
theorem heap4F {g l : Nat} (u : World) (h : l ≠ g) (v0 v1 v2 v3 : Value) : ((((u.setCell ⟨g, 0, none⟩ v0).setCell ⟨g, 1, none⟩ v1).setCell ⟨g, 2, none⟩ v2).setCell ⟨g, 3, none⟩ v3).heap[l]? = u.heap[l]? := by
  rw [heap1 _ h, heap1 _ h, heap1 _ h, heap1 _ h]
theorem noB_newSF (u : World) (t : TypeId) : NoB (u.alloc (.cells #[.slice none 0 0, .int .i64 0, .int .i64 0, .slice none 0 0] t)) u.heap.size := by
  intro o x
  rcases o with _ | _ | _ | _ | o <;> simp [go_sem]
theorem mx_ltF {u : World} {R C : Nat} {p : Option Addr} {n cap : Nat} {f : Nat → Nat → Fr} (h : Mx 3 cellsF u R C p n cap f) : ∀ g, (Value.slice p n cap).ownBlock = some g → g < u.heap.size := by
  obtain ⟨b', o, rfl, _, hlt, hcell⟩ := h.cells
  intro g hg
  cases hg
  exact hlt
theorem noB_rwF {u : World} {p : Option Addr} {n cap b : Nat} {x : Nat → Fr} (h : Rw 3 cellsF u (.slice p n cap) (linJ n x)) (h1 : 1 ≤ n) (nb : NoB u b) : ∀ g, (Value.slice p n cap).ownBlock = some g → g ≠ b := by
  rcases h with ⟨_, e⟩ | ⟨g, o, c, e, _, hlt, hx⟩
  · have := congrArg List.length e
    rw [linJ_len] at this
    simp at this
    omega
  · rintro g' hg rfl
    obtain ⟨j, y, hj⟩ := boolF (x 0)
    have := hx 0 _ (linJ_get x h1) j _ hj
    simp only [Value.slice.injEq] at e
    obtain ⟨rfl, _⟩ := e
    cases hg
    exact nb _ _ this
theorem whole_linF (p : Option Addr) (n cap : Nat) (h : Nat → Int) (w : World) (hr : Rq 1 cI w (.slice p n cap) (linJ n h)) (hl : n ≤ 1000000) :
    Calls Tryz.prog 33 #[.slice p n cap] w fun e w' => ∃ q c, e = .returned (.slice q n c) ∧ Rw 3 cellsF w' (.slice q n c) (linJ n fun i => wholeF (h i)) ∧ Bl w w' :=
  (vWholeF _ _ w hr (by rw [linJ_len]; exact hl)).mono fun e w' ⟨u, he, hr, hb⟩ => by
    rw [linJ_map] at hr
    obtain ⟨q, c, rfl, _, _⟩ := hr.cut
    rw [linJ_len] at hr he
    exact ⟨q, c, he, hr, hb⟩
/-- What an update tells, and where it is stored. -/
def updF (n N : Nat) (x : Nat → Fr) (P : Nat → Nat → Fr) (e a : Fr) : Upd (Option Addr × Nat × Option Addr × Nat) where
  v0 D := sJ D.1 n D.2.1 n n D.2.2.1 N D.2.2.2
  v1 _ := newsVF e a
  v2 _ := .bool true
  dat D u := Rw 3 cellsF u (.slice D.1 n D.2.1) (linJ n x) ∧ Mx 3 cellsF u n n D.2.2.1 N D.2.2.2 P
  off D b := (∀ g, (Value.slice D.1 n D.2.1).ownBlock = some g → g ≠ b) ∧ ∀ g, (Value.slice D.2.2.1 N D.2.2.2).ownBlock = some g → g ≠ b
  za u b := SBox u b none 0 0 0 0 none 0 0
  zb u b := NBoxF u b zeroR zeroR
  sa D u b := SBox u b D.1 n D.2.1 n n D.2.2.1 N D.2.2.2
  sb _ u b := NBoxF u b e a
theorem s_not_nF {u : World} {b : Nat} {px : Option Addr} {nx cx : Nat} {r c : Int} {p : Option Addr} {m cap : Nat} {x y : Fr} (h : SBox u b px nx cx r c p m cap) (k : NBoxF u b x y) : False := by
  have := h.c0.symm.trans k.c0
  simp at this
theorem updF_ok (n N : Nat) (x : Nat → Fr) (P : Nat → Nat → Fr) (e a : Fr) : UpdOk (updF n N x P e a) where
  dat_bl D u u' h k := ⟨h.1.later k, Mx.later h.2 k⟩
  dat_off D u b h hb := ⟨fun g hg => by have := h.1.lt g hg; omega, fun g hg => by have := mx_ltF h.2 g hg; omega⟩
  za_heap u u' b h _ e hs := SBox.heap h e hs
  zb_heap u u' b h _ e hs := NBoxF.heap h e hs
  sa_heap D u u' b h _ e hs := SBox.heap h e hs
  sb_heap D u u' b h _ e hs := NBoxF.heap h e hs
  ne0 u b h k := s_not_nF h k
  ne1 D u b h k := s_not_nF h k
  ne2 D u b h k := s_not_nF h k
theorem butNF (u : World) (b : Nat) (x y : Fr) : But (fun i => i = b) u ((((((u.setCell ⟨b, 0, none⟩ (.int .i64 x.n)).setCell ⟨b, 1, none⟩ (.int .i64 x.d)).setCell ⟨b, 2, none⟩ (.bool x.bad)).setCell ⟨b, 3, none⟩ (.int .i64 y.n)).setCell ⟨b, 4, none⟩ (.int .i64 y.d)).setCell ⟨b, 5, none⟩ (.bool y.bad)) := (((((but_cell1 (S := fun i => i = b) rfl _ _ _).trans (but_cell1 (S := fun i => i = b) rfl _ _ _)).trans (but_cell1 (S := fun i => i = b) rfl _ _ _)).trans (but_cell1 (S := fun i => i = b) rfl _ _ _)).trans (but_cell1 (S := fun i => i = b) rfl _ _ _)).trans (but_cell1 (S := fun i => i = b) rfl _ _ _)
theorem heapNF {l b : Nat} (u : World) (h : l ≠ b) (x y : Fr) : ((((((u.setCell ⟨b, 0, none⟩ (.int .i64 x.n)).setCell ⟨b, 1, none⟩ (.int .i64 x.d)).setCell ⟨b, 2, none⟩ (.bool x.bad)).setCell ⟨b, 3, none⟩ (.int .i64 y.n)).setCell ⟨b, 4, none⟩ (.int .i64 y.d)).setCell ⟨b, 5, none⟩ (.bool y.bad)).heap[l]? = u.heap[l]? := by
  rw [heap1 _ h, heap1 _ h, heap1 _ h, heap1 _ h, heap1 _ h, heap1 _ h]
theorem blNF {w u : World} (b : Nat) (h : Bl w u) (hb : w.heap.size ≤ b) (x y : Fr) : Bl w ((((((u.setCell ⟨b, 0, none⟩ (.int .i64 x.n)).setCell ⟨b, 1, none⟩ (.int .i64 x.d)).setCell ⟨b, 2, none⟩ (.bool x.bad)).setCell ⟨b, 3, none⟩ (.int .i64 y.n)).setCell ⟨b, 4, none⟩ (.int .i64 y.d)).setCell ⟨b, 5, none⟩ (.bool y.bad)) := Bl.set (Bl.set (Bl.set (Bl.set (Bl.set (Bl.set (h) hb _) hb _) hb _) hb _) hb _) hb _
end Go.Proofs.YthnadgbloamlaaaGreat

/- mat's Mul of what does not go together, of fractions (layer 6). Written by genMa.py. -/
namespace Go.Proofs.YthnadgbloamlaaaGreat
open Go.RowKit
set_option linter.unusedSimpArgs false
set_option linter.unusedVariables false

end Go.Proofs.YthnadgbloamlaaaGreat

/- Contracts of layer 6's Same, Alike. -/
namespace Go.Proofs.YthnadgbloamlaaaGreat
open Go.RowKit
set_option linter.unusedSimpArgs false
set_option linter.unusedVariables false

end Go.Proofs.YthnadgbloamlaaaGreat

/- Contract of layer 6's Alike. -/
namespace Go.Proofs.YthnadgbloamlaaaGreat
open Go.RowKit
set_option linter.unusedSimpArgs false
set_option linter.unusedVariables false

end Go.Proofs.YthnadgbloamlaaaGreat

/- Matrices of whole numbers, as fractions: contracts in the words of layer 6's laws; awake. -/
namespace Go.Proofs.YthnadgbloamlaaaGreat
open Go.RowKit
set_option linter.unusedSimpArgs false
set_option linter.unusedVariables false

theorem Mx.congr {α : Type} {s : Nat} {c : α → List Value} {w : World} {R C : Nat} {p : Option Addr} {n cap : Nat} {f g : Nat → Nat → α} (h : Mx s c w R C p n cap f) (e : ∀ i k, i < R → k < C → f i k = g i k) : Mx s c w R C p n cap g :=
  ⟨h.1, h.2.1, by rw [← mk_congr e]; exact h.2.2⟩
end Go.Proofs.YthnadgbloamlaaaGreat

/- awake of layer 9's laws. Written by genJw.py. -/
namespace Go.Proofs.YthnadgbloamlaaaGreat
open Go.RowKit
set_option linter.unusedSimpArgs false
set_option linter.unusedVariables false

theorem Tryz.build1J (x : Int) (u : World) : (Instr.buildSlice 54 1 #[(0, .int .i64 x)]).run Tryz.prog u = .ok (.slice (some ⟨u.heap.size, 0, none⟩) 1 1) (u.alloc (.cells #[.int .i64 x] 3)) := by kernel_rfl
theorem rq_one9 (u : World) (x : Int) (t : TypeId) : Rq 1 cI (u.alloc (.cells #[.int .i64 x] t)) (.slice (some ⟨u.heap.size, 0, none⟩) 1 1) (linJ 1 fun _ => x) := by
  refine .inr ⟨u.heap.size, 0, 1, rfl, Nat.le_refl _, by simp, fun j v hj k s hu => ?_⟩
  rcases j with _ | j
  · simp [linJ] at hj
    subst hj
    rcases k with _ | k
    · simp at hu
      subst hu
      simp [go_sem]
    · simp at hu
  · simp [linJ] at hj
theorem whole11 (w : World) (t : TypeId) (b0 : Nat) (hb0 : b0 = w.heap.size) : Calls Tryz.prog 29 #[.int .i64 1, .int .i64 1, .slice (some ⟨b0, 0, none⟩) 1 1] (w.alloc (.cells #[.int .i64 1] t))
    fun e w' => ∃ p' cap', e = .returned (.tuple #[mV 1 1 p' 1 cap', .bool true]) ∧ Mx 3 cellsF w' 1 1 p' 1 cap' (fun _ _ => itF 1) ∧ Bl (w.alloc (.cells #[.int .i64 1] t)) w' := by
  subst hb0
  refine (mWholeF 1 1 _ 1 1 [1] _ (rq_one9 w 1 t) (by decide) rfl).mono ?_
  rintro e w' ⟨p', cap', rfl, hr, hb⟩
  exact ⟨p', cap', rfl, ⟨⟨by omega, by omega, by omega, by omega⟩, rfl, hr.q⟩, hb⟩
theorem ex9_x : (upXJ kdF 1 (fun _ => wholeF 0) (squareJ kdF 1 fun _ _ => itF 1) (fun _ => wholeF 1) (newR 1 1) (newR 2 1)) 0 = newR 1 1 := by kernel_rfl
theorem ex9_p : (upPJ kdF (fun i j => wholeF (unitI i j)) 1 (squareJ kdF 1 fun _ _ => itF 1) (fun _ => wholeF 1) (newR 1 1)) 0 0 = newR 1 2 := by kernel_rfl
theorem ex9_a : spreadJ kdF 1 (squareJ kdF 1 fun _ _ => itF 1) (fun _ => wholeF 1) (newR 1 1) = newR 2 1 := by kernel_rfl
theorem rw_cells9F {w : World} {p : Option Addr} {n cap : Nat} {x : Nat → Fr} (h : Rw 3 cellsF w (.slice p n cap) (linJ n x)) (h1 : 1 ≤ n) : ∃ g o, p = some ⟨g, o, none⟩ ∧ ∀ u, Bl w u → ∀ k, k < n → u.cell? ⟨g, o + k * 3, none⟩ = some (.int .i64 (x k).n) ∧ u.cell? ⟨g, o + k * 3 + 1, none⟩ = some (.int .i64 (x k).d) ∧ u.cell? ⟨g, o + k * 3 + 2, none⟩ = some (.bool (x k).bad) := by
  rcases h with ⟨_, e⟩ | ⟨g, o, c, e, _, hlt, hx⟩
  · have := congrArg List.length e
    rw [linJ_len] at this
    simp at this
    omega
  · simp only [Value.slice.injEq] at e
    refine ⟨g, o, e.1, fun u hu k hk => ?_⟩
    have H := fun i v (hi : (cellsF (x k))[i]? = some v) => (bl_cell hu _ _ hlt).trans (hx k _ (linJ_get x hk) i v hi)
    exact ⟨H 0 _ rfl, H 1 _ rfl, H 2 _ rfl⟩
set_option maxRecDepth 100000 in
set_option maxHeartbeats 4000000 in
theorem awake9_any (w : World) : Calls Tryz.prog 21 #[] w fun e w' => e = .returned (.bool true) ∧ Bl w w' := by
  have fm : Tryz.prog.follows .mixedOrders = true := by kernel_rfl
  have egW := enters_of Tryz.func33 (by kernel_rfl) rfl
  have egN := enters_of Tryz.func49 (by kernel_rfl) rfl
  have egU := enters_of Tryz.func32 (by kernel_rfl) rfl
  have egQ := enters_of Tryz.func34 (by kernel_rfl) rfl
  go_enter Tryz.func21, Tryz.ntmps21
  go_wp2_with fail
  refine (whole11 w _ _ rfl).mono ?_
  rintro e w1 ⟨p1, c1, rfl, hx, h1⟩
  obtain ⟨W1, hW1⟩ : ∃ W1, W1 = w1.alloc (.cells #[.int .i64 1, .int .i64 1, .slice p1 1 c1] 60) := ⟨_, rfl⟩
  have b1 : Bl w1 W1 := by rw [hW1]; exact (Bl.refl _).alloc _
  have k1 : MBox W1 w1.heap.size 1 1 p1 1 c1 := by rw [hW1]; exact MBox.new w1 _ _ _ _ _ _
  have B1 : Bl w W1 := (((Bl.refl w).alloc _).trans h1).trans b1
  have HX := hideP (Mx.later hx b1)
  have HW1 := hideP hW1
  clear hW1 hx
  go_wp2_with fail
  rw [← HW1.out]
  refine (wpIn_wide (n := 8)).1 (region_q fm [some 14, some 15, some 16, some 17, some 13, some 18, some 19, some 3, none, some 4] (fun j => j == 6 || j == 9) 8 (by kernel_rfl) (by rfl)
      (fun j v u => match j with | 0 => ∃ g, v = .slice (some ⟨g, 0, none⟩) 1 1 ∧ Rq 1 cI u (.slice (some ⟨g, 0, none⟩) 1 1) (linJ 1 fun _ => 0) | 1 => ∃ q c, v = .slice q 1 c ∧ Rw 3 cellsF u (.slice q 1 c) (linJ 1 fun _ => wholeF 0) | 2 => v = mV 1 1 p1 1 c1 | 3 => ∃ q c p' c', v = .tuple #[sJ q (1) c (1 : Nat) (1 : Nat) p' (1) c', .bool true] ∧ Rw 3 cellsF u (.slice q (1) c) (linJ (1) (fun _ => wholeF 0)) ∧ Mx 3 cellsF u (1) (1) p' (1) c' (squareJ kdF 1 fun _ _ => itF 1) | 4 => ∃ q c p' c', v = .tuple #[sJ q (1) c (1 : Nat) (1 : Nat) p' (1) c', .bool true] ∧ Rw 3 cellsF u (.slice q (1) c) (linJ (1) (fun _ => wholeF 0)) ∧ Mx 3 cellsF u (1) (1) p' (1) c' (squareJ kdF 1 fun _ _ => itF 1) | 5 => ∃ q c p' c', v = sJ q (1) c (1 : Nat) (1 : Nat) p' (1) c' ∧ Rw 3 cellsF u (.slice q (1) c) (linJ (1) (fun _ => wholeF 0)) ∧ Mx 3 cellsF u (1) (1) p' (1) c' (squareJ kdF 1 fun _ _ => itF 1) | 6 => v = .bool true | 7 => ∃ b, v = .pointer (some ⟨b, 0, none⟩) ∧ W1.heap.size ≤ b ∧ SBox u b none 0 0 0 0 none 0 0 ∧ NoB u b | 9 => v = .bool true | _ => False)
      (by
        intro j v u u' hb h
        split at h <;> first | exact h | (obtain ⟨b, e, h1, h2, h3⟩ := h; exact ⟨b, e, h1, h2.later hb, h3.later hb h2.lt⟩) | (obtain ⟨q, c, p', c', e, h1, h2⟩ := h; exact ⟨q, c, p', c', e, h1.later hb, Mx.later h2 hb⟩) | (obtain ⟨q, c, e, h1⟩ := h; exact ⟨q, c, e, h1.later hb⟩) | (obtain ⟨g, e, h1⟩ := h; exact ⟨g, e, h1.later hb⟩)) (fun vs u0 u => ∃ b q c p' c', vs 7 = .pointer (some ⟨b, 0, none⟩) ∧ W1.heap.size ≤ b ∧ SBox u b q (1) c (1 : Nat) (1 : Nat) p' (1) c' ∧ Rw 3 cellsF u (.slice q (1) c) (linJ (1) (fun _ => wholeF 0)) ∧ Mx 3 cellsF u (1) (1) p' (1) c' (squareJ kdF 1 fun _ _ => itF 1) ∧ Bl W1 u) ?step ?still ?store ?fin)
  case step =>
    intro j o t act u ho hdt hpu hsz hu hfr hin
    have hj : j < 10 := (Array.getElem?_eq_some_iff.1 ho).1
    obtain ⟨y0, y1, y2, _, _, _, _⟩ := k1.later hu
    rcases (by omega : j = 0 ∨ j = 1 ∨ j = 2 ∨ j = 3 ∨ j = 4 ∨ j = 5 ∨ j = 6 ∨ j = 7 ∨ j = 8 ∨ j = 9) with rfl | rfl | rfl | rfl | rfl | rfl | rfl | rfl | rfl | rfl
    · simp only [List.getElem?_toArray, List.getElem?_cons_zero, List.getElem?_cons_succ, Option.some.injEq] at ho
      subst ho
      obtain rfl := Option.some.inj hdt
      refine build_wp _ _ rfl (Tryz.build1J 0 u) ?_
      exact ⟨_, rfl, ⟨u.heap.size, rfl, rq_one9 u 0 _⟩, (Bl.refl _).alloc _⟩
    · simp only [List.getElem?_toArray, List.getElem?_cons_zero, List.getElem?_cons_succ, Option.some.injEq] at ho
      subst ho
      obtain rfl := Option.some.inj hdt
      have i14 : ∃ g, (act.eval (.tmp (14 : Nat))) = .slice (some ⟨g, 0, none⟩) 1 1 ∧ Rq 1 cI u (.slice (some ⟨g, 0, none⟩) 1 1) (linJ 1 fun _ => 0) := hin ⟨0, .data⟩ (by simp) rfl 14 rfl
      obtain ⟨g0, e0, hg⟩ := i14
      refine enter_wp 33 #[.slice (some ⟨g0, 0, none⟩) 1 1] (by intro c h; cases h) (fun _ _ => trivial) (by simp only [execOp, evalC, evalF, evalG, resolve, e0, List.map_toArray, List.map_cons, List.map_nil]; simp [invoke, egW, Result.andThen, go_sem]) (by intro h; cases h) (callsIn_wide.2 (whole_linF _ 1 1 (fun _ => 0) u hg (by decide))) ?_
      rintro e w' ⟨q, c, rfl, hR, hb⟩
      exact ⟨_, rfl, _, rfl, ⟨q, c, rfl, hR⟩, hb⟩
    · simp only [List.getElem?_toArray, List.getElem?_cons_zero, List.getElem?_cons_succ, Option.some.injEq] at ho
      subst ho
      obtain rfl := Option.some.inj hdt
      have i1 : act.eval (.tmp (1 : Nat)) = .pointer (some ⟨w1.heap.size, 0, none⟩) := hfr 1 (by decide)
      exact plain_wp (by intro c h; cases h) (fun _ _ => trivial) (by simp only [execOp, i1, evalC, evalF, evalG]; simp [go_sem, y0, y1, y2]) ⟨_, rfl, rfl, Bl.refl _⟩
    · simp only [List.getElem?_toArray, List.getElem?_cons_zero, List.getElem?_cons_succ, Option.some.injEq] at ho
      subst ho
      obtain rfl := Option.some.inj hdt
      have i15 : ∃ q c, (act.eval (.tmp (15 : Nat))) = .slice q 1 c ∧ Rw 3 cellsF u (.slice q 1 c) (linJ 1 fun _ => wholeF 0) := hin ⟨1, .data⟩ (by simp) rfl 15 rfl
      have i16 : (act.eval (.tmp (16 : Nat))) = mV 1 1 p1 1 c1 := hin ⟨2, .data⟩ (by simp) rfl 16 rfl
      obtain ⟨q0, c0, e0, hq⟩ := i15
      refine enter_wp 49 #[.slice q0 1 c0, mV 1 1 p1 1 c1] (by intro c h; cases h) (fun _ _ => trivial) (by simp only [execOp, evalC, evalF, evalG, resolve, e0, i16, List.map_toArray, List.map_cons, List.map_nil]; simp [invoke, egN, Result.andThen, go_sem]) (by intro h; cases h) (callsIn_wide.2 (jNewF 1 q0 c0 (fun _ => wholeF 0) p1 1 c1 (fun _ _ => itF 1) u hq.q (HX.out.later hu) (by decide))) ?_
      rintro e w' ⟨q, c, p', c', rfl, ⟨hR, hM⟩, hb⟩
      exact ⟨_, rfl, _, rfl, ⟨q, c, p', c', rfl, hR, hM⟩, hb⟩
    · simp only [List.getElem?_toArray, List.getElem?_cons_zero, List.getElem?_cons_succ, Option.some.injEq] at ho
      subst ho
      obtain rfl := Option.some.inj hdt
      have i17 : ∃ q c p' c', (act.eval (.tmp (17 : Nat))) = .tuple #[sJ q (1) c (1 : Nat) (1 : Nat) p' (1) c', .bool true] ∧ Rw 3 cellsF u (.slice q (1) c) (linJ (1) (fun _ => wholeF 0)) ∧ Mx 3 cellsF u (1) (1) p' (1) c' (squareJ kdF 1 fun _ _ => itF 1) := hin ⟨3, .data⟩ (by simp) rfl 17 rfl
      obtain ⟨q0, c0', p0, c0, e1, hq1, hq2⟩ := i17
      exact plain_wp (by intro c h; cases h) (fun _ _ => trivial) (by simp only [execOp, e1]; simp [go_sem]) ⟨_, rfl, ⟨q0, c0', p0, c0, rfl, hq1, hq2⟩, Bl.refl _⟩
    · simp only [List.getElem?_toArray, List.getElem?_cons_zero, List.getElem?_cons_succ, Option.some.injEq] at ho
      subst ho
      obtain rfl := Option.some.inj hdt
      have i13 : ∃ q c p' c', (act.eval (.tmp (13 : Nat))) = .tuple #[sJ q (1) c (1 : Nat) (1 : Nat) p' (1) c', .bool true] ∧ Rw 3 cellsF u (.slice q (1) c) (linJ (1) (fun _ => wholeF 0)) ∧ Mx 3 cellsF u (1) (1) p' (1) c' (squareJ kdF 1 fun _ _ => itF 1) := hin ⟨4, .data⟩ (by simp) rfl 13 rfl
      obtain ⟨q0, c0', p0, c0, e1, hq1, hq2⟩ := i13
      exact plain_wp (by intro c h; cases h) (fun _ _ => trivial) (by simp only [execOp, e1]; simp [go_sem]) ⟨_, rfl, ⟨q0, c0', p0, c0, rfl, hq1, hq2⟩, Bl.refl _⟩
    · cases hpu
    · simp only [List.getElem?_toArray, List.getElem?_cons_zero, List.getElem?_cons_succ, Option.some.injEq] at ho
      subst ho
      obtain rfl := Option.some.inj hdt
      exact plain_wp (by intro c h; cases h) (fun _ _ => trivial) (w' := u.alloc (.cells #[.slice none 0 0, .int .i64 0, .int .i64 0, .slice none 0 0] 66)) (v := .pointer (some ⟨u.heap.size, 0, none⟩)) (by simp only [execOp]; simp [go_sem]) ⟨_, rfl, ⟨u.heap.size, rfl, hu.size, SBox.new u _ _ _ _ _ _ _ _ _, noB_newSF u _⟩, (Bl.refl _).alloc _⟩
    · simp only [List.getElem?_toArray, List.getElem?_cons_zero, List.getElem?_cons_succ, Option.some.injEq] at ho
      subst ho
      cases hdt
    · cases hpu
  case still =>
    intro j o t act u0 u ho hdt hpu hsz hu hfr hin
    have hj : j < 10 := (Array.getElem?_eq_some_iff.1 ho).1
    obtain ⟨y0, y1, y2, _, _, _, _⟩ := k1.later hu
    rcases (by omega : j = 0 ∨ j = 1 ∨ j = 2 ∨ j = 3 ∨ j = 4 ∨ j = 5 ∨ j = 6 ∨ j = 7 ∨ j = 8 ∨ j = 9) with rfl | rfl | rfl | rfl | rfl | rfl | rfl | rfl | rfl | rfl
    · cases hpu
    · cases hpu
    · cases hpu
    · cases hpu
    · cases hpu
    · cases hpu
    · simp only [List.getElem?_toArray, List.getElem?_cons_zero, List.getElem?_cons_succ, Option.some.injEq] at ho
      subst ho
      obtain rfl := Option.some.inj hdt
      have i13 : ∃ q c p' c', (act.eval (.tmp (13 : Nat))) = .tuple #[sJ q (1) c (1 : Nat) (1 : Nat) p' (1) c', .bool true] ∧ Rw 3 cellsF u0 (.slice q (1) c) (linJ (1) (fun _ => wholeF 0)) ∧ Mx 3 cellsF u0 (1) (1) p' (1) c' (squareJ kdF 1 fun _ _ => itF 1) := hin ⟨4, .data⟩ (by simp) rfl 13 rfl
      obtain ⟨q0, c0', p0, c0, e1, hq1, hq2⟩ := i13
      exact plain_wp (by intro c h; cases h) (fun _ _ => trivial) (by simp only [execOp, e1]; simp [go_sem]) ⟨_, rfl, rfl, rfl⟩
    · cases hpu
    · cases hpu
    · simp only [List.getElem?_toArray, List.getElem?_cons_zero, List.getElem?_cons_succ, Option.some.injEq] at ho
      subst ho
      obtain rfl := Option.some.inj hdt
      have i19 : (act.eval (.tmp (19 : Nat))) = .bool true := hin ⟨6, .data⟩ (by simp) rfl 19 rfl
      exact plain_wp (by intro c h; cases h) (fun _ _ => trivial) (by simp only [execOp, i19, evalC, evalF, evalG]; simp [go_sem]) ⟨_, rfl, rfl, rfl⟩
  case store =>
    intro o act u vs ho hsz hu hfr hin
    simp only [List.getElem?_toArray, List.getElem?_cons_zero, List.getElem?_cons_succ, Option.some.injEq] at ho
    subst ho
    obtain ⟨i3, k3⟩ : act.eval (.tmp (3 : Nat)) = vs 7 ∧ (∃ b, (vs 7) = .pointer (some ⟨b, 0, none⟩) ∧ W1.heap.size ≤ b ∧ SBox u b none 0 0 0 0 none 0 0 ∧ NoB u b) := hin 7 3 rfl rfl
    obtain ⟨i18, k18⟩ : act.eval (.tmp (18 : Nat)) = vs 5 ∧ (∃ q c p' c', (vs 5) = sJ q (1) c (1 : Nat) (1 : Nat) p' (1) c' ∧ Rw 3 cellsF u (.slice q (1) c) (linJ (1) (fun _ => wholeF 0)) ∧ Mx 3 cellsF u (1) (1) p' (1) c' (squareJ kdF 1 fun _ _ => itF 1)) := hin 5 18 rfl rfl
    obtain ⟨b, e1, hb, bx, nb⟩ := k3
    obtain ⟨q0, c0', p0, c0, e2, hq1, hq2⟩ := k18
    rw [e1] at i3
    rw [e2] at i18
    obtain ⟨d0, d1, d2, d3, g0, g1, g2, g3, ltb⟩ := id bx
    exact skip_wp (by intro c h; cases h) (fun _ _ => trivial) (by simp only [execOp, i3, i18]; simp [go_sem, d0, d1, d2, d3, g0, g1, g2, g3]) ⟨rfl, b, q0, c0', p0, c0, e1, hb, bx.fill _ _ _ _ _ _ _ _, hq1.but (but4F _ _ _ _ _ _) (fun g hg => noB_rwF hq1 (by decide) nb g hg), Mx.but hq2 (but4F _ _ _ _ _ _) (fun g hg => Ne.symm (noB_mx boolF hq2 nb g hg)), Bl.put4 hu hb _ _ _ _⟩
  case fin =>
    intro vs vb u0 u hu hin hps
    have a0 := hin 0 14 rfl
    have a1 := hin 1 15 rfl
    have a2 := hin 2 16 rfl
    have a3 := hin 3 17 rfl
    have a4 := hin 4 13 rfl
    have a5 := hin 5 18 rfl
    have a6 := hin 6 19 rfl
    have a7 := hin 7 3 rfl
    have a9 := hin 9 4 rfl
    simp only [putL, Act.put, List.setIfInBounds_toArray, List.set_cons_zero, List.set_cons_succ, Nat.zero_add, Nat.reduceAdd, Nat.reduceBEq, Bool.or_false, Bool.or_true, Bool.false_or, Bool.true_or, Bool.false_eq_true, if_false, if_true, reduceIte, Nat.reduceEqDiff, beq_self_eq_true, Bool.or_self] at a0 a1 a2 a3 a4 a5 a6 a7 a9 ⊢
    rw [if_pos (by decide)] at hps
    simp only [a2, a6, a9]
    obtain ⟨b, q1, cq1, p2, c2, eb, hb, ks, hR, hM, hbu⟩ := hps
    simp only [eb]
    obtain ⟨w2, rfl⟩ : ∃ w2, w2 = u := ⟨_, rfl⟩
    have HR := hideP hR
    have HM := hideP hM
    clear a0 a1 a3 a4 a5 a7 hu hin hR hM
    have B2 : Bl w w2 := B1.trans hbu
    go_wp2_with fail
    refine (wpIn_wide (n := 8)).1 (region_u (updF_ok (1) (1) (upXJ kdF 1 (fun _ => wholeF 0) (squareJ kdF 1 fun _ _ => itF 1) (fun _ => wholeF 1) (newR 1 1) (newR 2 1)) (upPJ kdF (fun i j => wholeF (unitI i j)) 1 (squareJ kdF 1 fun _ _ => itF 1) (fun _ => wholeF 1) (newR 1 1)) (surpJ kdF 1 (fun _ => wholeF 0) (fun _ => wholeF 1) (newR 2 1)) (spreadJ kdF 1 (squareJ kdF 1 fun _ _ => itF 1) (fun _ => wholeF 1) (newR 1 1))) fm [some 21, some 22, some 23, some 24, some 25, some 26, some 20, some 27, some 28, some 29, some 5, some 6, none, none, some 7] 5 (by kernel_rfl) (by rfl) 26 20 27 28 29 5 6 7 rfl
          (fun j v u => match j with | 0 => v = sJ q1 1 cq1 1 1 p2 1 c2 | 1 => ∃ g, v = .slice (some ⟨g, 0, none⟩) 1 1 ∧ Rq 1 cI u (.slice (some ⟨g, 0, none⟩) 1 1) (linJ 1 fun _ => 1) | 2 => ∃ q c, v = .slice q 1 c ∧ Rw 3 cellsF u (.slice q 1 c) (linJ 1 fun _ => wholeF 1) | 3 => v = frV (newR 1 1) | 4 => v = frV (newR 2 1) | _ => False)
          (by
            intro j v u u' hb h
            split at h <;> first | exact h | (obtain ⟨q, c, e, h1⟩ := h; exact ⟨q, c, e, h1.later hb⟩) | (obtain ⟨g, e, h1⟩ := h; exact ⟨g, e, h1.later hb⟩)) ?step ?call ?mv ?x0 ?x1 ?x2 ?la ?lb ?sa ?sb ?asg ?fin)
    case step =>
      intro j o t act u hjk ho hdt hsz hu hfr hin
      obtain ⟨s0, s1, s2, s3, _, _, _, _, _⟩ := ks.later hu
      rcases (by omega : j = 0 ∨ j = 1 ∨ j = 2 ∨ j = 3 ∨ j = 4) with rfl | rfl | rfl | rfl | rfl
      · simp only [List.getElem?_toArray, List.getElem?_cons_zero, List.getElem?_cons_succ, Option.some.injEq] at ho
        subst ho
        obtain rfl := Option.some.inj hdt
        have i3 : act.eval (.tmp (3 : Nat)) = .pointer (some ⟨b, 0, none⟩) := hfr 3 (by decide)
        exact plain_wp (by intro c h; cases h) (fun _ _ => trivial) (by simp only [execOp, i3, evalC, evalF, evalG]; simp [go_sem, s0, s1, s2, s3]) ⟨_, rfl, rfl, Bl.refl _⟩
      · simp only [List.getElem?_toArray, List.getElem?_cons_zero, List.getElem?_cons_succ, Option.some.injEq] at ho
        subst ho
        obtain rfl := Option.some.inj hdt
        refine build_wp _ _ rfl (Tryz.build1J 1 u) ?_
        exact ⟨_, rfl, ⟨u.heap.size, rfl, rq_one9 u 1 _⟩, (Bl.refl _).alloc _⟩
      · simp only [List.getElem?_toArray, List.getElem?_cons_zero, List.getElem?_cons_succ, Option.some.injEq] at ho
        subst ho
        obtain rfl := Option.some.inj hdt
        have i22 : ∃ g, (act.eval (.tmp (22 : Nat))) = .slice (some ⟨g, 0, none⟩) 1 1 ∧ Rq 1 cI u (.slice (some ⟨g, 0, none⟩) 1 1) (linJ 1 fun _ => 1) := hin ⟨1, .data⟩ (by simp) rfl 22 rfl
        obtain ⟨g0, e0, hg⟩ := i22
        refine enter_wp 33 #[.slice (some ⟨g0, 0, none⟩) 1 1] (by intro c h; cases h) (fun _ _ => trivial) (by simp only [execOp, evalC, evalF, evalG, resolve, e0, List.map_toArray, List.map_cons, List.map_nil]; simp [invoke, egW, Result.andThen, go_sem]) (by intro h; cases h) (callsIn_wide.2 (whole_linF _ 1 1 (fun _ => 1) u hg (by decide))) ?_
        rintro e w' ⟨q, c, rfl, hR, hb⟩
        exact ⟨_, rfl, _, rfl, ⟨q, c, rfl, hR⟩, hb⟩
      · simp only [List.getElem?_toArray, List.getElem?_cons_zero, List.getElem?_cons_succ, Option.some.injEq] at ho
        subst ho
        obtain rfl := Option.some.inj hdt
        refine enter_wp 34 #[.int .i64 1, .int .i64 1] (by intro c h; cases h) (fun _ _ => trivial) (by simp only [execOp, evalC, evalF, evalG, resolve, evalC, List.map_toArray, List.map_cons, List.map_nil]; simp [invoke, egQ, Result.andThen, go_sem]) (by intro h; cases h) (callsIn_wide.2 (new_any 1 1 u)) ?_
        rintro e w' ⟨rfl, hb⟩
        exact ⟨_, rfl, _, rfl, rfl, hb⟩
      · simp only [List.getElem?_toArray, List.getElem?_cons_zero, List.getElem?_cons_succ, Option.some.injEq] at ho
        subst ho
        obtain rfl := Option.some.inj hdt
        refine enter_wp 34 #[.int .i64 2, .int .i64 1] (by intro c h; cases h) (fun _ _ => trivial) (by simp only [execOp, evalC, evalF, evalG, resolve, evalC, List.map_toArray, List.map_cons, List.map_nil]; simp [invoke, egQ, Result.andThen, go_sem]) (by intro h; cases h) (callsIn_wide.2 (new_any 2 1 u)) ?_
        rintro e w' ⟨rfl, hb⟩
        exact ⟨_, rfl, _, rfl, rfl, hb⟩
    case call =>
      intro o act u ho hsz hu hfr hin
      obtain ⟨s0, s1, s2, s3, _, _, _, _, _⟩ := ks.later hu
      simp only [List.getElem?_toArray, List.getElem?_cons_zero, List.getElem?_cons_succ, Option.some.injEq, Nat.reduceAdd] at ho
      subst ho
      have i21 : (act.eval (.tmp (21 : Nat))) = sJ q1 1 cq1 1 1 p2 1 c2 := hin ⟨0, .data⟩ (by simp) rfl 21 rfl
      have i23 : ∃ q c, (act.eval (.tmp (23 : Nat))) = .slice q 1 c ∧ Rw 3 cellsF u (.slice q 1 c) (linJ 1 fun _ => wholeF 1) := hin ⟨2, .data⟩ (by simp) rfl 23 rfl
      have i24 : (act.eval (.tmp (24 : Nat))) = frV (newR 1 1) := hin ⟨3, .data⟩ (by simp) rfl 24 rfl
      have i25 : (act.eval (.tmp (25 : Nat))) = frV (newR 2 1) := hin ⟨4, .data⟩ (by simp) rfl 25 rfl
      obtain ⟨q0, c0, e0, hq⟩ := i23
      refine enter_wp 32 #[sJ q1 1 cq1 1 1 p2 1 c2, .slice q0 1 c0, frV (newR 1 1), frV (newR 2 1)] (by intro c h; cases h) (fun _ _ => trivial) (by simp only [execOp, evalC, evalF, evalG, resolve, i21, e0, i24, i25, List.map_toArray, List.map_cons, List.map_nil]; simp [invoke, egU, Result.andThen, go_sem]) (by intro h; cases h) (callsIn_wide.2 (jUpdateF 1 1 q1 cq1 (fun _ => wholeF 0) p2 c2 (squareJ kdF 1 fun _ _ => itF 1) q0 c0 (fun _ => wholeF 1) (newR 1 1) (newR 2 1) u (HR.out.later hu).q (HM.out.later hu) hq.q (by decide))) ?_
      rintro e w' ⟨q, c, p', c', rfl, ⟨hR, hM, hF1, hF2⟩, hb⟩
      exact ⟨_, rfl, (q, c, p', c'), rfl, ⟨hR, hM⟩, hb, fun b hb' _ => ⟨fun g hg => by have := hF1 g hg; omega, fun g hg => by have := hF2 g hg; omega⟩⟩
    case mv =>
      intro o act u x ho hx
      simp only [List.getElem?_toArray, List.getElem?_cons_zero, List.getElem?_cons_succ, Option.some.injEq, Nat.reduceAdd] at ho
      subst ho
      exact plain_wp (by intro c h; cases h) (fun _ _ => trivial) (by simp only [execOp, hx]; simp [go_sem]) ⟨rfl, rfl⟩
    case x0 =>
      intro o act u x y z ho hx
      simp only [List.getElem?_toArray, List.getElem?_cons_zero, List.getElem?_cons_succ, Option.some.injEq, Nat.reduceAdd] at ho
      subst ho
      exact plain_wp (by intro c h; cases h) (fun _ _ => trivial) (by simp only [execOp, hx]; simp [go_sem]) ⟨rfl, rfl⟩
    case x1 =>
      intro o act u x y z ho hx
      simp only [List.getElem?_toArray, List.getElem?_cons_zero, List.getElem?_cons_succ, Option.some.injEq, Nat.reduceAdd] at ho
      subst ho
      exact plain_wp (by intro c h; cases h) (fun _ _ => trivial) (by simp only [execOp, hx]; simp [go_sem]) ⟨rfl, rfl⟩
    case x2 =>
      intro o act u x y z ho hx
      simp only [List.getElem?_toArray, List.getElem?_cons_zero, List.getElem?_cons_succ, Option.some.injEq, Nat.reduceAdd] at ho
      subst ho
      exact plain_wp (by intro c h; cases h) (fun _ _ => trivial) (by simp only [execOp, hx]; simp [go_sem]) ⟨rfl, rfl⟩
    case la =>
      intro o act u ho
      simp only [List.getElem?_toArray, List.getElem?_cons_zero, List.getElem?_cons_succ, Option.some.injEq, Nat.reduceAdd] at ho
      subst ho
      exact plain_wp (by intro c h; cases h) (fun _ _ => trivial) (w' := u.alloc (.cells #[.slice none 0 0, .int .i64 0, .int .i64 0, .slice none 0 0] 66)) (v := .pointer (some ⟨u.heap.size, 0, none⟩)) (by simp only [execOp]; simp [go_sem]) ⟨rfl, SBox.new u _ _ _ _ _ _ _ _ _, (Bl.refl _).alloc _, by simp⟩
    case lb =>
      intro o act u ho
      simp only [List.getElem?_toArray, List.getElem?_cons_zero, List.getElem?_cons_succ, Option.some.injEq, Nat.reduceAdd] at ho
      subst ho
      exact plain_wp (by intro c h; cases h) (fun _ _ => trivial) (w' := u.alloc (.cells #[.int .i64 0, .int .i64 0, .bool false, .int .i64 0, .int .i64 0, .bool false] 71)) (v := .pointer (some ⟨u.heap.size, 0, none⟩)) (by simp only [execOp]; simp [go_sem]) ⟨rfl, NBoxF.new u zeroR zeroR _, (Bl.refl _).alloc _, by simp⟩
    case sa =>
      intro o act u D b ho hA h0 hz hdat hoff hbl hb
      simp only [List.getElem?_toArray, List.getElem?_cons_zero, List.getElem?_cons_succ, Option.some.injEq, Nat.reduceAdd] at ho
      subst ho
      obtain ⟨q0, c0, p0, c1⟩ := D
      replace h0 : act.eval (.tmp 27) = sJ q0 (1) c0 (1) (1) p0 (1) c1 := h0
      obtain ⟨d0, d1, d2, d3, g0, g1, g2, g3, lt⟩ := (show SBox u b none 0 0 0 0 none 0 0 from hz)
      exact skip_wp (by intro c h; cases h) (fun _ _ => trivial) (by simp only [execOp, hA, h0]; simp [go_sem, d0, d1, d2, d3, g0, g1, g2, g3]) ⟨rfl, SBox.fill (show SBox u b none 0 0 0 0 none 0 0 from hz) _ _ _ _ _ _ _ _, ⟨hdat.1.but (but4F _ _ _ _ _ _) (fun g hg => hoff.1 g hg), hdat.2.but (but4F _ _ _ _ _ _) (fun g hg => hoff.2 g hg)⟩, Bl.put4 hbl hb _ _ _ _, fun b' h' => heap4F _ h' _ _ _ _, by simp⟩
    case sb =>
      intro o act u D b ho hA h0 hz hdat hoff hbl hb
      simp only [List.getElem?_toArray, List.getElem?_cons_zero, List.getElem?_cons_succ, Option.some.injEq, Nat.reduceAdd] at ho
      subst ho
      obtain ⟨q0, c0, p0, c1⟩ := D
      replace h0 : act.eval (.tmp 28) = newsVF (surpJ kdF 1 (fun _ => wholeF 0) (fun _ => wholeF 1) (newR 2 1)) (spreadJ kdF 1 (squareJ kdF 1 fun _ _ => itF 1) (fun _ => wholeF 1) (newR 1 1)) := h0
      obtain ⟨d0, d1, d2, d3, d4, d5, g0, g1, g2, g3, g4, g5, lt⟩ := (show NBoxF u b zeroR zeroR from hz)
      exact skip_wp (by intro c h; cases h) (fun _ _ => trivial) (by simp only [execOp, hA, h0]; simp [go_sem, d0, d1, d2, d3, d4, d5, g0, g1, g2, g3, g4, g5]) ⟨rfl, NBoxF.fill (show NBoxF u b zeroR zeroR from hz) _ _, ⟨hdat.1.but (butNF _ _ _ _) (fun g hg => hoff.1 g hg), hdat.2.but (butNF _ _ _ _) (fun g hg => hoff.2 g hg)⟩, blNF b hbl hb _ _, fun b' h' => heapNF _ h' _ _, by simp⟩
    case asg =>
      intro o act u x ho hx
      simp only [List.getElem?_toArray, List.getElem?_cons_zero, List.getElem?_cons_succ, Option.some.injEq, Nat.reduceAdd] at ho
      subst ho
      exact plain_wp (by intro c h; cases h) (fun _ _ => trivial) (by simp only [execOp, hx]; simp [go_sem]) ⟨rfl, rfl⟩
    case fin =>
      intro vs u D b1 b2 hu e9' e5' e6' hb1 hb2 hsa hsb hdat
      simp only [putL, Act.put, List.setIfInBounds_toArray, List.set_cons_zero, List.set_cons_succ, Nat.zero_add, Nat.reduceAdd] at e9' e5' e6' ⊢
      replace e9' := Eq.trans e9' (show _ = Value.bool true from rfl)
      simp only [e9', e5', e6']
      obtain ⟨q3, cq3, p3, c3⟩ := D
      obtain ⟨w3, rfl⟩ : ∃ w3, w3 = u := ⟨_, rfl⟩
      have KA : SBox w3 b1 q3 1 cq3 1 1 p3 1 c3 := hsa
      have KB : NBoxF w3 b2 (surpJ kdF 1 (fun _ => wholeF 0) (fun _ => wholeF 1) (newR 2 1)) (spreadJ kdF 1 (squareJ kdF 1 fun _ _ => itF 1) (fun _ => wholeF 1) (newR 1 1)) := hsb
      have HD3 : Rw 3 cellsF w3 (.slice q3 1 cq3) (linJ 1 (upXJ kdF 1 (fun _ => wholeF 0) (squareJ kdF 1 fun _ _ => itF 1) (fun _ => wholeF 1) (newR 1 1) (newR 2 1))) ∧ Mx 3 cellsF w3 1 1 p3 1 c3 (upPJ kdF (fun i j => wholeF (unitI i j)) 1 (squareJ kdF 1 fun _ _ => itF 1) (fun _ => wholeF 1) (newR 1 1)) := hdat
      have BQ : Bl w w3 := B2.trans hu
      have KS : SBox w3 b q1 1 cq1 1 1 p2 1 c2 := ks.later hu
      rw [ex9_a] at KB
      obtain ⟨gx, ox, hgx, CX⟩ := rw_cells9F HD3.1 (by decide)
      subst hgx
      have AT := hideP (fun z : Wl w3 => by have := mAtF 1 1 p3 1 c3 _ z.w (Mx.later HD3.2 z.bl) 0 0 (by decide) (by decide); rw [ex9_p] at this; exact this)
      have RT := hideP (fun z : Wl w3 => by have := jRightF q1 1 cq1 1 1 p2 1 c2 z.w; rw [show fitJ 1 1 1 ((1 : Nat) : Int) = true from rfl] at this; exact this)
      have CX0 := fun (z : Wl w3) => CX z.w z.bl 0 (by decide)
      rw [ex9_x] at CX0
      obtain ⟨R, hR⟩ : ∃ R : Int → Int → Fr, R = newR := ⟨_, rfl⟩
      have NW := hideP (fun n d (z : Wl w3) => by have := new_any n d z.w; rw [← hR] at this; exact this)
      rw [← hR] at KB AT CX0
      have x0 : ∀ z : Wl w3, z.w.cell? ⟨gx, ox, none⟩ = some (.int .i64 (R 1 1).n) := fun z => by simpa using (CX0 z).1
      have x1 : ∀ z : Wl w3, z.w.cell? ⟨gx, ox + 1, none⟩ = some (.int .i64 (R 1 1).d) := fun z => by simpa using (CX0 z).2.1
      have x2 : ∀ z : Wl w3, z.w.cell? ⟨gx, ox + 2, none⟩ = some (.bool (R 1 1).bad) := fun z => by simpa using (CX0 z).2.2
      have t0 := fun z : Wl w3 => (KA.later z.bl).c0
      have t1 := fun z : Wl w3 => (KA.later z.bl).c1
      have t2 := fun z : Wl w3 => (KA.later z.bl).c2
      have t3 := fun z : Wl w3 => (KA.later z.bl).c3
      have s0 := fun z : Wl w3 => (KS.later z.bl).c0
      have s1 := fun z : Wl w3 => (KS.later z.bl).c1
      have s2 := fun z : Wl w3 => (KS.later z.bl).c2
      have s3 := fun z : Wl w3 => (KS.later z.bl).c3
      have m3 := fun z : Wl w3 => (KB.later z.bl).c3
      have m4 := fun z : Wl w3 => (KB.later z.bl).c4
      have m5 := fun z : Wl w3 => (KB.later z.bl).c5
      have q11 := eql_selfV (R 1 1)
      have q12 := eql_selfV (R 1 2)
      have q21 := eql_selfV (R 2 1)
      have wne := wl_ne w3
      clear hsa hsb hdat HD3 CX CX0 KA KB KS ks hR k1 HR HM
      go_wp2_with fail
      refine wl_region w3 (Bl.refl _) (by kernel_rfl) (by kernel_rfl) ?_
      repeat (go_big_quiet_step (first | (go_at_call 34; exact wl_call (NW.out _ _ _)) | (go_at_call 63; exact wl_call (AT.out _)) | (go_at_call 76; exact wl_call (RT.out _))))
      refine wpQuiet_nil ?_
      intro _ hw'
      obtain ⟨z, hw''⟩ := hw'
      subst hw''
      clear wne x0 x1 x2 t0 t1 t2 t3 s0 s1 s2 s3 m3 m4 m5
      obtain ⟨wz, hz⟩ := z
      dsimp only
      go_wp2
      go_ret
      exact ⟨rfl, BQ.trans hz⟩
end Go.Proofs.YthnadgbloamlaaaGreat

/- Start of layer 9's laws. Written by genJs.py. -/
namespace Go.Proofs.YthnadgbloamlaaaGreat
open Go.RowKit
set_option linter.unusedSimpArgs false
set_option linter.unusedVariables false

theorem whole9F_call (R C : Nat) (p : Option Addr) (n cap : Nat) (ns : List Int) (w : World) (hr : Rq 1 cI w (.slice p n cap) ns) (hd : Dim R C) (hn : n = R * C) (hl : ns.length = n) :
    Calls Tryz.prog 29 #[.int .i64 R, .int .i64 C, .slice p n cap] w fun e w' => ∃ p' cap', e = .returned (.tuple #[mV R C p' n cap', .bool true]) ∧ Mx 3 cellsF w' R C p' n cap' (fun i k => wholeF (ofL C ns i k)) ∧ Bl w w' := by
  refine (mWholeF R C p n cap ns w hr (fitB_dim hd hn) hl).mono ?_
  rintro e w' ⟨p', cap', rfl, hR, hb⟩
  refine ⟨p', cap', rfl, ⟨hd, hn, ?_⟩, hb⟩
  have e := ofL_mk (R := R) (M := C) (ns := ns) (by rw [hl, hn])
  rw [e, mk_map] at hR
  exact hR.q
set_option maxRecDepth 100000 in
set_option maxHeartbeats 4000000 in
theorem start9_any (m N : Nat) (r z : Int) (px pr : Option Addr) (cx cr : Nat) (vf vg vh : Value) (X Ro : List Int) (w : World) (oF : vf.oneCell' = true) (oG : vg.oneCell' = true) (oH : vh.oneCell' = true) (hX : Rq 1 cI w (.slice px m cx) X) (hR : Rq 1 cI w (.slice pr N cr) Ro) (lX : X.length = m) (lR : Ro.length = N) (m1 : 1 ≤ m) (m3 : m ≤ 3) (hN : N = m * m) :
    Calls Tryz.prog 31 #[.agg #[.int .i64 m, .slice px m cx, .slice pr N cr, vf, vg, vh, .int .i64 r, .int .i64 z]] w fun e w' => ∃ q c p' c', e = .returned (sJ q m c m m p' N c') ∧ (Rw 3 cellsF w' (.slice q m c) (linJ m (fun i => wholeF (X.getD i 0))) ∧ Mx 3 cellsF w' m m p' N c' (squareJ kdF m (fun i k => wholeF (ofL m Ro i k)))) ∧ Bl w w' := by
  have fm : Tryz.prog.follows .mixedOrders = true := by kernel_rfl
  have egW := enters_of Tryz.func33 (by kernel_rfl) rfl
  have egN := enters_of Tryz.func49 (by kernel_rfl) rfl
  have hm4 : m ≤ 4 := by omega
  obtain ⟨W, hW⟩ : ∃ W, W = (w.alloc (.cells #[.int .i64 m, .slice px m cx, .slice pr N cr, vf, vg, vh, .int .i64 r, .int .i64 z] 56)).alloc (.cells #[.slice none 0 0, .int .i64 0, .int .i64 0, .slice none 0 0] 66) := ⟨_, rfl⟩
  have b0 : Bl w W := by rw [hW]; exact ((Bl.refl _).alloc _).alloc _
  have lt0 : w.heap.size < W.heap.size := by rw [hW]; simp; omega
  have z0 : SBox W (w.heap.size + 1) none 0 0 0 0 none 0 0 := by rw [hW]; have := SBox.new (w.alloc (.cells #[.int .i64 m, .slice px m cx, .slice pr N cr, vf, vg, vh, .int .i64 r, .int .i64 z] 56)) none 0 0 0 0 none 0 0 66; rw [World.size_alloc] at this; exact this
  have nb0 : NoB W (w.heap.size + 1) := by rw [hW]; have := noB_newSF (w.alloc (.cells #[.int .i64 m, .slice px m cx, .slice pr N cr, vf, vg, vh, .int .i64 r, .int .i64 z] 56)) 66; rw [World.size_alloc] at this; exact this
  have HC := hideP (show ∀ u, Bl W u → u.cell? ⟨w.heap.size, 0, none⟩ = some (.int .i64 m) ∧ u.cell? ⟨w.heap.size, 1, none⟩ = some (.slice px m cx) ∧ u.cell? ⟨w.heap.size, 2, none⟩ = some (.slice pr N cr) ∧ u.cell? ⟨w.heap.size, 3, none⟩ = some vf ∧ u.cell? ⟨w.heap.size, 4, none⟩ = some vg ∧ u.cell? ⟨w.heap.size, 5, none⟩ = some vh ∧ u.cell? ⟨w.heap.size, 6, none⟩ = some (.int .i64 r) ∧ u.cell? ⟨w.heap.size, 7, none⟩ = some (.int .i64 z) from fun u hu => by
    refine ⟨?_, ?_, ?_, ?_, ?_, ?_, ?_, ?_⟩ <;> (rw [bl_cell hu _ _ lt0, hW]; simp [go_sem]))
  have HNN := hideP hN
  have HD := hideP (dim_le4 m1 hm4)
  have HXR := hideP (show Rq 1 cI w (.slice px m cx) (linJ m fun i => X.getD i 0) from by rw [← linJ_of (n := m) 0 X lX]; exact hX)
  have WH := hideP (whole9F_call m m pr N cr Ro W (hR.later b0) HD.out hN lR)
  have HW := hideP hW
  clear hW hX hR lX lR hN
  go_enter Tryz.func31, Tryz.ntmps31
  go_wp2_with fail
  rw [← HW.out]
  refine WH.out.mono ?_
  rintro e w3 ⟨p3, c3', rfl, hx, h3⟩
  obtain ⟨W3, hW3⟩ : ∃ W3, W3 = w3.alloc (.cells #[.int .i64 m, .int .i64 m, .slice p3 N c3'] 60) := ⟨_, rfl⟩
  have b3' : Bl w3 W3 := by rw [hW3]; exact (Bl.refl _).alloc _
  have k3 : MBox W3 w3.heap.size m m p3 N c3' := by rw [hW3]; exact MBox.new w3 _ _ _ _ _ _
  have HX3 := hideP (Mx.later hx b3')
  have b3 : Bl W W3 := h3.trans b3'
  have B3 : Bl w W3 := b0.trans b3
  have HW3 := hideP hW3
  clear hW3 hx WH
  go_wp2_with fail
  rw [← HW3.out]
  refine (wpIn_wide (n := 8)).1 (region_q fm [some 18, some 19, some 20, some 21, some 22, some 17, some 23, some 24, some 5, none, some 6] (fun j => j == 7 || j == 10) 9 (by kernel_rfl) (by rfl)
      (fun j v u => match j with | 0 => v = .pointer (some ⟨w.heap.size, 1, none⟩) | 1 => v = .slice px m cx | 2 => ∃ q c, v = .slice q m c ∧ Rw 3 cellsF u (.slice q m c) (linJ m (fun i => wholeF (X.getD i 0))) | 3 => v = mV m m p3 N c3' | 4 => ∃ q c p' c', v = .tuple #[sJ q (m) c (m : Nat) (m : Nat) p' (N) c', .bool true] ∧ Rw 3 cellsF u (.slice q (m) c) (linJ (m) (fun i => wholeF (X.getD i 0))) ∧ Mx 3 cellsF u (m) (m) p' (N) c' (squareJ kdF m (fun i k => wholeF (ofL m Ro i k))) | 5 => ∃ q c p' c', v = .tuple #[sJ q (m) c (m : Nat) (m : Nat) p' (N) c', .bool true] ∧ Rw 3 cellsF u (.slice q (m) c) (linJ (m) (fun i => wholeF (X.getD i 0))) ∧ Mx 3 cellsF u (m) (m) p' (N) c' (squareJ kdF m (fun i k => wholeF (ofL m Ro i k))) | 6 => ∃ q c p' c', v = sJ q (m) c (m : Nat) (m : Nat) p' (N) c' ∧ Rw 3 cellsF u (.slice q (m) c) (linJ (m) (fun i => wholeF (X.getD i 0))) ∧ Mx 3 cellsF u (m) (m) p' (N) c' (squareJ kdF m (fun i k => wholeF (ofL m Ro i k))) | 7 => v = .bool true | 8 => ∃ b, v = .pointer (some ⟨b, 0, none⟩) ∧ W3.heap.size ≤ b ∧ SBox u b none 0 0 0 0 none 0 0 ∧ NoB u b | 10 => v = .bool true | _ => False)
      (by
        intro j v u u' hb h
        split at h <;> first | exact h | (obtain ⟨b, e, h1, h2, h3⟩ := h; exact ⟨b, e, h1, h2.later hb, h3.later hb h2.lt⟩) | (obtain ⟨q, c, p', c', e, h1, h2⟩ := h; exact ⟨q, c, p', c', e, h1.later hb, Mx.later h2 hb⟩) | (obtain ⟨q, c, e, h1⟩ := h; exact ⟨q, c, e, h1.later hb⟩) | (obtain ⟨g, e, h1⟩ := h; exact ⟨g, e, h1.later hb⟩)) (fun vs u0 u => ∃ b q c p' c', vs 8 = .pointer (some ⟨b, 0, none⟩) ∧ W3.heap.size ≤ b ∧ SBox u b q (m) c (m : Nat) (m : Nat) p' (N) c' ∧ Rw 3 cellsF u (.slice q (m) c) (linJ (m) (fun i => wholeF (X.getD i 0))) ∧ Mx 3 cellsF u (m) (m) p' (N) c' (squareJ kdF m (fun i k => wholeF (ofL m Ro i k))) ∧ Bl W3 u) ?step ?still ?store ?fin)
  case step =>
    intro j o t act u ho hdt hpu hsz hu hfr hin
    have hj : j < 11 := (Array.getElem?_eq_some_iff.1 ho).1
    obtain ⟨c0, c1, c2, c3, c4, c5, c6, c7⟩ := HC.out _ (b3.trans hu)
    obtain ⟨y0, y1, y2, _, _, _, _⟩ := k3.later hu
    rcases (by omega : j = 0 ∨ j = 1 ∨ j = 2 ∨ j = 3 ∨ j = 4 ∨ j = 5 ∨ j = 6 ∨ j = 7 ∨ j = 8 ∨ j = 9 ∨ j = 10) with rfl | rfl | rfl | rfl | rfl | rfl | rfl | rfl | rfl | rfl | rfl
    · simp only [List.getElem?_toArray, List.getElem?_cons_zero, List.getElem?_cons_succ, Option.some.injEq] at ho
      subst ho
      obtain rfl := Option.some.inj hdt
      have i1 : act.eval (.tmp (1 : Nat)) = .pointer (some ⟨w.heap.size, 0, none⟩) := hfr 1 (by decide)
      exact plain_wp (by intro c h; cases h) (fun _ _ => trivial) (by simp only [execOp, i1, evalC, evalF, evalG]; simp [go_sem, c1]) ⟨_, rfl, rfl, Bl.refl _⟩
    · simp only [List.getElem?_toArray, List.getElem?_cons_zero, List.getElem?_cons_succ, Option.some.injEq] at ho
      subst ho
      obtain rfl := Option.some.inj hdt
      have i18 : (act.eval (.tmp (18 : Nat))) = .pointer (some ⟨w.heap.size, 1, none⟩) := hin ⟨0, .data⟩ (by simp) rfl 18 rfl
      exact plain_wp (by intro c h; cases h) (fun _ _ => trivial) (by simp only [execOp, i18, evalC, evalF, evalG]; simp [go_sem, c1]) ⟨_, rfl, rfl, Bl.refl _⟩
    · simp only [List.getElem?_toArray, List.getElem?_cons_zero, List.getElem?_cons_succ, Option.some.injEq] at ho
      subst ho
      obtain rfl := Option.some.inj hdt
      have i19 : (act.eval (.tmp (19 : Nat))) = .slice px m cx := hin ⟨1, .data⟩ (by simp) rfl 19 rfl
      refine enter_wp 33 #[.slice px m cx] (by intro c h; cases h) (fun _ _ => trivial) (by simp only [execOp, evalC, evalF, evalG, resolve, i19, List.map_toArray, List.map_cons, List.map_nil]; simp [invoke, egW, Result.andThen, go_sem]) (by intro h; cases h) (callsIn_wide.2 (whole_linF px m cx (fun i => X.getD i 0) u (HXR.out.later (B3.trans hu)) (by omega))) ?_
      rintro e w' ⟨q, c, rfl, hR, hb⟩
      exact ⟨_, rfl, _, rfl, ⟨q, c, rfl, hR⟩, hb⟩
    · simp only [List.getElem?_toArray, List.getElem?_cons_zero, List.getElem?_cons_succ, Option.some.injEq] at ho
      subst ho
      obtain rfl := Option.some.inj hdt
      have i3 : act.eval (.tmp (3 : Nat)) = .pointer (some ⟨w3.heap.size, 0, none⟩) := hfr 3 (by decide)
      exact plain_wp (by intro c h; cases h) (fun _ _ => trivial) (by simp only [execOp, i3, evalC, evalF, evalG]; simp [go_sem, y0, y1, y2]) ⟨_, rfl, rfl, Bl.refl _⟩
    · simp only [List.getElem?_toArray, List.getElem?_cons_zero, List.getElem?_cons_succ, Option.some.injEq] at ho
      subst ho
      obtain rfl := Option.some.inj hdt
      have i20 : ∃ q c, (act.eval (.tmp (20 : Nat))) = .slice q m c ∧ Rw 3 cellsF u (.slice q m c) (linJ m (fun i => wholeF (X.getD i 0))) := hin ⟨2, .data⟩ (by simp) rfl 20 rfl
      have i21 : (act.eval (.tmp (21 : Nat))) = mV m m p3 N c3' := hin ⟨3, .data⟩ (by simp) rfl 21 rfl
      obtain ⟨q0, cc0, e0, hq⟩ := i20
      refine enter_wp 49 #[.slice q0 m cc0, mV m m p3 N c3'] (by intro c h; cases h) (fun _ _ => trivial) (by simp only [execOp, evalC, evalF, evalG, resolve, e0, i21, List.map_toArray, List.map_cons, List.map_nil]; simp [invoke, egN, Result.andThen, go_sem]) (by intro h; cases h) (callsIn_wide.2 (jNewF m q0 cc0 (fun i => wholeF (X.getD i 0)) p3 N c3' (fun i k => wholeF (ofL m Ro i k)) u hq.q (HX3.out.later hu) hm4)) ?_
      rintro e w' ⟨q, c, p', c', rfl, ⟨hR, hM⟩, hb⟩
      exact ⟨_, rfl, _, rfl, ⟨q, c, p', c', rfl, hR, hM⟩, hb⟩
    · simp only [List.getElem?_toArray, List.getElem?_cons_zero, List.getElem?_cons_succ, Option.some.injEq] at ho
      subst ho
      obtain rfl := Option.some.inj hdt
      have i22 : ∃ q c p' c', (act.eval (.tmp (22 : Nat))) = .tuple #[sJ q (m) c (m : Nat) (m : Nat) p' (N) c', .bool true] ∧ Rw 3 cellsF u (.slice q (m) c) (linJ (m) (fun i => wholeF (X.getD i 0))) ∧ Mx 3 cellsF u (m) (m) p' (N) c' (squareJ kdF m (fun i k => wholeF (ofL m Ro i k))) := hin ⟨4, .data⟩ (by simp) rfl 22 rfl
      obtain ⟨q0, c0', p0, c0, e1, hq1, hq2⟩ := i22
      exact plain_wp (by intro c h; cases h) (fun _ _ => trivial) (by simp only [execOp, e1]; simp [go_sem]) ⟨_, rfl, ⟨q0, c0', p0, c0, rfl, hq1, hq2⟩, Bl.refl _⟩
    · simp only [List.getElem?_toArray, List.getElem?_cons_zero, List.getElem?_cons_succ, Option.some.injEq] at ho
      subst ho
      obtain rfl := Option.some.inj hdt
      have i17 : ∃ q c p' c', (act.eval (.tmp (17 : Nat))) = .tuple #[sJ q (m) c (m : Nat) (m : Nat) p' (N) c', .bool true] ∧ Rw 3 cellsF u (.slice q (m) c) (linJ (m) (fun i => wholeF (X.getD i 0))) ∧ Mx 3 cellsF u (m) (m) p' (N) c' (squareJ kdF m (fun i k => wholeF (ofL m Ro i k))) := hin ⟨5, .data⟩ (by simp) rfl 17 rfl
      obtain ⟨q0, c0', p0, c0, e1, hq1, hq2⟩ := i17
      exact plain_wp (by intro c h; cases h) (fun _ _ => trivial) (by simp only [execOp, e1]; simp [go_sem]) ⟨_, rfl, ⟨q0, c0', p0, c0, rfl, hq1, hq2⟩, Bl.refl _⟩
    · cases hpu
    · simp only [List.getElem?_toArray, List.getElem?_cons_zero, List.getElem?_cons_succ, Option.some.injEq] at ho
      subst ho
      obtain rfl := Option.some.inj hdt
      exact plain_wp (by intro c h; cases h) (fun _ _ => trivial) (w' := u.alloc (.cells #[.slice none 0 0, .int .i64 0, .int .i64 0, .slice none 0 0] 66)) (v := .pointer (some ⟨u.heap.size, 0, none⟩)) (by simp only [execOp]; simp [go_sem]) ⟨_, rfl, ⟨u.heap.size, rfl, hu.size, SBox.new u _ _ _ _ _ _ _ _ _, noB_newSF u _⟩, (Bl.refl _).alloc _⟩
    · simp only [List.getElem?_toArray, List.getElem?_cons_zero, List.getElem?_cons_succ, Option.some.injEq] at ho
      subst ho
      cases hdt
    · cases hpu
  case still =>
    intro j o t act u0 u ho hdt hpu hsz hu hfr hin
    have hj : j < 11 := (Array.getElem?_eq_some_iff.1 ho).1
    obtain ⟨c0, c1, c2, c3, c4, c5, c6, c7⟩ := HC.out _ (b3.trans hu)
    obtain ⟨y0, y1, y2, _, _, _, _⟩ := k3.later hu
    rcases (by omega : j = 0 ∨ j = 1 ∨ j = 2 ∨ j = 3 ∨ j = 4 ∨ j = 5 ∨ j = 6 ∨ j = 7 ∨ j = 8 ∨ j = 9 ∨ j = 10) with rfl | rfl | rfl | rfl | rfl | rfl | rfl | rfl | rfl | rfl | rfl
    · cases hpu
    · cases hpu
    · cases hpu
    · cases hpu
    · cases hpu
    · cases hpu
    · cases hpu
    · simp only [List.getElem?_toArray, List.getElem?_cons_zero, List.getElem?_cons_succ, Option.some.injEq] at ho
      subst ho
      obtain rfl := Option.some.inj hdt
      have i17 : ∃ q c p' c', (act.eval (.tmp (17 : Nat))) = .tuple #[sJ q (m) c (m : Nat) (m : Nat) p' (N) c', .bool true] ∧ Rw 3 cellsF u0 (.slice q (m) c) (linJ (m) (fun i => wholeF (X.getD i 0))) ∧ Mx 3 cellsF u0 (m) (m) p' (N) c' (squareJ kdF m (fun i k => wholeF (ofL m Ro i k))) := hin ⟨5, .data⟩ (by simp) rfl 17 rfl
      obtain ⟨q0, c0', p0, c0, e1, hq1, hq2⟩ := i17
      exact plain_wp (by intro c h; cases h) (fun _ _ => trivial) (by simp only [execOp, e1]; simp [go_sem]) ⟨_, rfl, rfl, rfl⟩
    · cases hpu
    · cases hpu
    · simp only [List.getElem?_toArray, List.getElem?_cons_zero, List.getElem?_cons_succ, Option.some.injEq] at ho
      subst ho
      obtain rfl := Option.some.inj hdt
      have i24 : (act.eval (.tmp (24 : Nat))) = .bool true := hin ⟨7, .data⟩ (by simp) rfl 24 rfl
      exact plain_wp (by intro c h; cases h) (fun _ _ => trivial) (by simp only [execOp, i24, evalC, evalF, evalG]; simp [go_sem]) ⟨_, rfl, rfl, rfl⟩
  case store =>
    intro o act u vs ho hsz hu hfr hin
    simp only [List.getElem?_toArray, List.getElem?_cons_zero, List.getElem?_cons_succ, Option.some.injEq] at ho
    subst ho
    obtain ⟨i5, k5⟩ : act.eval (.tmp (5 : Nat)) = vs 8 ∧ (∃ b, (vs 8) = .pointer (some ⟨b, 0, none⟩) ∧ W3.heap.size ≤ b ∧ SBox u b none 0 0 0 0 none 0 0 ∧ NoB u b) := hin 8 5 rfl rfl
    obtain ⟨i23, k23⟩ : act.eval (.tmp (23 : Nat)) = vs 6 ∧ (∃ q c p' c', (vs 6) = sJ q (m) c (m : Nat) (m : Nat) p' (N) c' ∧ Rw 3 cellsF u (.slice q (m) c) (linJ (m) (fun i => wholeF (X.getD i 0))) ∧ Mx 3 cellsF u (m) (m) p' (N) c' (squareJ kdF m (fun i k => wholeF (ofL m Ro i k)))) := hin 6 23 rfl rfl
    obtain ⟨b, e1, hb, bx, nb⟩ := k5
    obtain ⟨q0, c0', p0, c0, e2, hq1, hq2⟩ := k23
    rw [e1] at i5
    rw [e2] at i23
    obtain ⟨d0, d1, d2, d3, g0, g1, g2, g3, ltb⟩ := id bx
    exact skip_wp (by intro c h; cases h) (fun _ _ => trivial) (by simp only [execOp, i5, i23]; simp [go_sem, d0, d1, d2, d3, g0, g1, g2, g3]) ⟨rfl, b, q0, c0', p0, c0, e1, hb, bx.fill _ _ _ _ _ _ _ _, hq1.but (but4F _ _ _ _ _ _) (fun g hg => noB_rwF hq1 (m1) nb g hg), Mx.but hq2 (but4F _ _ _ _ _ _) (fun g hg => Ne.symm (noB_mx boolF hq2 nb g hg)), Bl.put4 hu hb _ _ _ _⟩
  case fin =>
    intro vs vb u0 u hu hin hps
    have a0 := hin 0 18 rfl
    have a1 := hin 1 19 rfl
    have a2 := hin 2 20 rfl
    have a3 := hin 3 21 rfl
    have a4 := hin 4 22 rfl
    have a5 := hin 5 17 rfl
    have a6 := hin 6 23 rfl
    have a7 := hin 7 24 rfl
    have a8 := hin 8 5 rfl
    have a10 := hin 10 6 rfl
    simp only [putL, Act.put, List.setIfInBounds_toArray, List.set_cons_zero, List.set_cons_succ, Nat.zero_add, Nat.reduceAdd, Nat.reduceBEq, Bool.or_false, Bool.or_true, Bool.false_or, Bool.true_or, Bool.false_eq_true, if_false, if_true, reduceIte, Nat.reduceEqDiff, beq_self_eq_true, Bool.or_self] at a0 a1 a2 a3 a4 a5 a6 a7 a8 a10 ⊢
    rw [if_pos (by decide)] at hps
    simp only [a0, a1, a3, a7, a10]
    obtain ⟨b, q9, cq9, p9, c9, eb, hb, k9, hR, hM, hbu⟩ := hps
    simp only [eb]
    obtain ⟨w9, rfl⟩ : ∃ w9, w9 = u := ⟨_, rfl⟩
    have NB := nb0.later (b3.trans hbu) z0.lt
    have KZ := z0.later (b3.trans hbu)
    have HR9 := hideP (hR.but (but4F _ (w.heap.size + 1) (.slice q9 m cq9) (.int .i64 m) (.int .i64 m) (.slice p9 N c9)) (fun g hg => noB_rwF hR m1 NB g hg))
    have HM9 := hideP (Mx.but hM (but4F _ (w.heap.size + 1) (.slice q9 m cq9) (.int .i64 m) (.int .i64 m) (.slice p9 N c9)) (fun g hg => Ne.symm (noB_mx boolF hM NB g hg)))
    have B9 := B3.trans hbu
    obtain ⟨s0, s1, s2, s3, _, _, _, _, _⟩ := id k9
    obtain ⟨d0, d1, d2, d3, g0, g1, g2, g3, ltd⟩ := KZ
    clear a2 a4 a5 a6 a8 hu hin hR hM
    go_wp2
    simp [bodyPost, results, Tryz.results31, go_sem, d0, d1, d2, d3]
    exact ⟨q9, cq9, p9, c9, by simp, ⟨HR9.out, HM9.out⟩, Bl.put4 B9 (Nat.le_succ _) _ _ _ _⟩
end Go.Proofs.YthnadgbloamlaaaGreat

/- The contract of math/bits.LeadingZeros64. -/
namespace Go.Proofs.YthnadgbloamlaaaGreat
open Go.RowKit
set_option linter.unusedSimpArgs false
set_option linter.unusedVariables false

/-- n is how many bits x has. -/
def LenIs (x n : Int) : Prop := ∃ k : Nat, n = k ∧ k ≤ 64 ∧ x < 2 ^ k ∧ (0 < x → 2 ^ k ≤ 2 * x)

theorem len8_size : Lib.len8tab.size = 256 := by decide +kernel
theorem len8_all : ∀ b : Fin 256, b.val < 2 ^ (Lib.len8tab[b.val]'(by rw [len8_size]; exact b.isLt)).toNat ∧ (0 < b.val → 2 ^ (Lib.len8tab[b.val]'(by rw [len8_size]; exact b.isLt)).toNat ≤ 2 * b.val) ∧ (Lib.len8tab[b.val]'(by rw [len8_size]; exact b.isLt)).toNat ≤ 8 := by decide +kernel
/-- Behind a shift by c bits. -/
theorem len_of (x : Int) (c : Nat) (y : Int) (h0 : 0 ≤ x) (hc : c ≤ 56) (hy : y = x / 2 ^ c) (hb : y < 256) (hl : c = 0 ∨ 0 < y) (hz : y.toNat < Lib.len8tab.size) :
    LenIs x (wrap64 (c + wrap64 ((Lib.len8tab[y.toNat]'hz).toNat : Nat))) := by
  have hp : (0 : Int) < 2 ^ c := Int.pow_pos (by decide)
  have hy0 : 0 ≤ y := by rw [hy]; exact Int.ediv_nonneg h0 (Int.le_of_lt hp)
  obtain ⟨a1, a2, a3⟩ := len8_all ⟨y.toNat, by omega⟩
  simp only at a1 a2 a3
  generalize (Lib.len8tab[y.toNat]'hz).toNat = t at *
  have e1 : wrap64 (t : Int) = t := IntWalk.wrap64_in _ (by omega)
  rw [e1, IntWalk.wrap64_in ((c : Int) + t) (by omega)]
  refine ⟨c + t, by omega, by omega, ?_, ?_⟩
  · have b1 : y + 1 ≤ 2 ^ t := by
      have : ((y.toNat + 1 : Nat) : Int) ≤ ((2 ^ t : Nat) : Int) := by exact_mod_cast a1
      push_cast at this
      omega
    have b2 : x < (y + 1) * 2 ^ c := by
      rw [hy]; exact Int.lt_ediv_add_one_mul_self x hp
    have b3 : (y + 1) * 2 ^ c ≤ 2 ^ t * 2 ^ c := Int.mul_le_mul_of_nonneg_right b1 (Int.le_of_lt hp)
    rw [Int.pow_add, Int.mul_comm]
    omega
  · intro hx
    by_cases hyp : 0 < y
    · have b1 : (2 : Int) ^ t ≤ 2 * y := by
        have := a2 (by omega)
        have : ((2 ^ t : Nat) : Int) ≤ ((2 * y.toNat : Nat) : Int) := by exact_mod_cast this
        push_cast at this
        omega
      have b2 : y * 2 ^ c ≤ x := by rw [hy]; exact Int.ediv_mul_le x (by omega)
      have b3 : (2 : Int) ^ t * 2 ^ c ≤ (2 * y) * 2 ^ c := Int.mul_le_mul_of_nonneg_right b1 (Int.le_of_lt hp)
      rw [Int.pow_add, Int.mul_comm]
      rw [Int.mul_assoc] at b3
      omega
    · have : c = 0 := by omega
      subst this
      simp at hy
      omega

set_option maxHeartbeats 4000000 in
set_option maxRecDepth 100000 in
theorem len64_any (x : Int) (w : World) (h0 : 0 ≤ x) (h1 : x ≤ 18446744073709551615) :
    Calls Tryz.prog 220 #[.int .u64 x] w fun e w' => (∃ n : Int, e = .returned (.int .i64 n) ∧ LenIs x n) ∧ w' = w := by
  have hs := len8_size
  go_enter Tryz.func220, Tryz.ntmps220
  go_wp2
  all_goals (go_ret; refine ⟨⟨_, rfl, ?_⟩, rfl⟩)
  · exact len_of x 56 _ h0 (by decide) (by omega) (by omega) (by omega) _
  · exact len_of x 48 _ h0 (by decide) (by omega) (by omega) (by omega) _
  · exact len_of x 40 _ h0 (by decide) (by omega) (by omega) (by omega) _
  · exact len_of x 32 _ h0 (by decide) (by omega) (by omega) (by omega) _
  · exact len_of x 24 _ h0 (by decide) (by omega) (by omega) (by omega) _
  · exact len_of x 16 _ h0 (by decide) (by omega) (by omega) (by omega) _
  · exact len_of x 8 _ h0 (by decide) (by omega) (by omega) (by omega) _
  · have hz : x.toNat < Lib.len8tab.size := by rw [len8_size]; omega
    have := len_of x 0 x h0 (by decide) (by simp) (by omega) (by omega) hz
    simpa using this

/-- s is how many bits y can be moved up. -/
def LzIs (y s : Int) : Prop := ∃ k : Nat, s = k ∧ k ≤ 63 ∧ y * 2 ^ k < 18446744073709551616 ∧ 9223372036854775808 ≤ y * 2 ^ k
theorem lz_of_len {y n : Int} (h : LenIs y n) (hy : 0 < y) (hy1 : y < 18446744073709551616) : LzIs y (64 - n) := by
  obtain ⟨k, rfl, hk, h1, h2⟩ := h
  have h2 := h2 hy
  have hk0 : 1 ≤ k := by
    rcases Nat.eq_zero_or_pos k with e | e
    · subst e; simp at h1; omega
    · exact e
  refine ⟨64 - k, by omega, by omega, ?_, ?_⟩
  · have hp : (0 : Int) < 2 ^ (64 - k) := Int.pow_pos (by decide)
    have := Int.mul_lt_mul_of_pos_right h1 hp
    rw [← Int.pow_add, show k + (64 - k) = 64 from by omega] at this
    simpa using this
  · have hp : (0 : Int) < 2 ^ (64 - k) := Int.pow_pos (by decide)
    have := Int.mul_le_mul_of_nonneg_right h2 (Int.le_of_lt hp)
    rw [← Int.pow_add, show k + (64 - k) = 64 from by omega, Int.mul_assoc] at this
    have e : (2 : Int) ^ 64 = 18446744073709551616 := by decide
    rw [e] at this
    omega

theorem lz64_any (y : Int) (w : World) (h0 : 0 < y) (h1 : y < 18446744073709551616) :
    Calls Tryz.prog 207 #[.int .u64 y] w fun e w' => (∃ s : Int, e = .returned (.int .i64 s) ∧ LzIs y s) ∧ w' = w := by
  go_enter Tryz.func207, Tryz.ntmps207
  go_wp2_with fail
  refine (len64_any y _ (by omega) (by omega)).mono ?_
  rintro e w' ⟨⟨n, rfl, hn⟩, rfl⟩
  have hb : 0 ≤ n ∧ n ≤ 64 := by obtain ⟨k, rfl, hk, _⟩ := hn; omega
  obtain ⟨b1, b2⟩ := hb
  have H : Hid (LenIs y n) := hn
  clear hn
  go_wp2
  go_ret
  exact ⟨⟨_, rfl, lz_of_len H.out h0 h1⟩, rfl⟩
end Go.Proofs.YthnadgbloamlaaaGreat

/- Plain arithmetic: a digit of a quotient, guessed and mended; the words of a number that is moved up. -/
namespace Go.Proofs.YthnadgbloamlaaaGreat

/-- What is known of a digit: U·B + d by Y = y1·B + y0. -/
structure Digit (U d Y y1 y0 Q R : Int) : Prop where
  hY : Y = y1 * 4294967296 + y0
  y0n : 0 ≤ y0
  y0l : y0 < 4294967296
  y1l : 2147483648 ≤ y1
  y1h : y1 < 4294967296
  dn : 0 ≤ d
  dl : d < 4294967296
  Un : 0 ≤ U
  Ul : U < Y
  Qn : 0 ≤ Q
  Ql : Q ≤ 4294967295
  Rn : 0 ≤ R
  Rl : R < Y
  eq : U * 4294967296 + d = Q * Y + R

theorem digit_mk {U d Y y1 y0 : Int} (hY : Y = y1 * 4294967296 + y0) (y0n : 0 ≤ y0) (y0l : y0 < 4294967296) (y1l : 2147483648 ≤ y1) (y1h : y1 < 4294967296)
    (dn : 0 ≤ d) (dl : d < 4294967296) (Un : 0 ≤ U) (Ul : U < Y) : ∃ Q R, Digit U d Y y1 y0 Q R := by
  have hYp : 0 < Y := by omega
  have hN : 0 ≤ U * 4294967296 + d := by omega
  refine ⟨(U * 4294967296 + d) / Y, (U * 4294967296 + d) % Y, hY, y0n, y0l, y1l, y1h, dn, dl, Un, Ul, Int.ediv_nonneg hN (by omega), ?_, Int.emod_nonneg _ (by omega), Int.emod_lt_of_pos _ hYp, ?_⟩
  · have : (U * 4294967296 + d) / Y < 4294967296 := by
      apply Int.ediv_lt_of_lt_mul hYp
      omega
    omega
  · rw [Int.mul_comm ((U * 4294967296 + d) / Y) Y]
    exact (Int.mul_ediv_add_emod _ _).symm

theorem Digit.le_of {U d Y y1 y0 Q R : Int} (D : Digit U d Y y1 y0 Q R) (q : Int) (h : q * Y ≤ U * 4294967296 + d) : q ≤ Q := by
  obtain ⟨hY, y0n, y0l, y1l, y1h, dn, dl, Un, Ul, Qn, Ql, Rn, Rl, eq⟩ := D
  rcases Int.lt_or_le Q q with h' | h'
  · have := Int.mul_le_mul_of_nonneg_right (show Q + 1 ≤ q by omega) (show 0 ≤ Y by omega)
    rw [Int.add_mul, Int.one_mul] at this
    omega
  · exact h'

theorem Digit.mulY {U d Y y1 y0 Q R : Int} (D : Digit U d Y y1 y0 Q R) (q : Int) : q * Y = q * y1 * 4294967296 + q * y0 := by
  rw [D.hY, Int.mul_add, Int.mul_assoc]

theorem Digit.first {U d Y y1 y0 Q R : Int} (D : Digit U d Y y1 y0 Q R) : Q ≤ U / y1 ∧ U / y1 ≤ 4294967297 ∧ 0 ≤ U / y1 * y1 ∧ U / y1 * y1 ≤ U ∧ U - U / y1 * y1 < y1 := by
  have hm := D.mulY Q
  obtain ⟨hY, y0n, y0l, y1l, y1h, dn, dl, Un, Ul, Qn, Ql, Rn, Rl, eq⟩ := D
  have e1 := Int.mul_ediv_add_emod U y1
  have e2 := Int.emod_nonneg U (show y1 ≠ 0 by omega)
  have e3 := Int.emod_lt_of_pos U (show 0 < y1 by omega)
  have e4 := Int.ediv_nonneg Un (show 0 ≤ y1 by omega)
  rw [Int.mul_comm y1 (U / y1)] at e1
  have e5 : 0 ≤ Q * y0 := Int.mul_nonneg Qn y0n
  have e6 : Q * y1 ≤ U := by omega
  refine ⟨(Int.le_ediv_iff_mul_le (by omega)).2 e6, ?_, Int.mul_nonneg e4 (by omega), by omega, by omega⟩
  have : U / y1 < 4294967298 := by
    apply Int.ediv_lt_of_lt_mul (by omega)
    omega
  omega

/-- The loop goes on: the digit is less. -/
theorem Digit.more {U d Y y1 y0 Q R : Int} (D : Digit U d Y y1 y0 Q R) (q r : Int) (hr : r = U - q * y1) (hq : Q ≤ q) (h : 4294967296 ≤ q ∨ 4294967296 * r + d < q * y0) : Q ≤ q - 1 := by
  rcases h with h | h
  · have := D.Ql; omega
  · rcases Int.lt_or_le Q q with h' | h'
    · omega
    · exfalso
      have e : q = Q := by omega
      subst e
      have hm := D.mulY q
      have := D.eq
      have := D.Rn
      omega

/-- The loop ends by its test: it is the digit. -/
theorem Digit.done {U d Y y1 y0 Q R : Int} (D : Digit U d Y y1 y0 Q R) (q r : Int) (hr : r = U - q * y1) (hq : Q ≤ q) (h : ¬ 4294967296 * r + d < q * y0) : q = Q := by
  have hm := D.mulY q
  have := D.le_of q (by omega)
  omega

/-- The loop ends by its break: it is the digit. -/
theorem Digit.broke {U d Y y1 y0 Q R : Int} (D : Digit U d Y y1 y0 Q R) (q r : Int) (hr : r = U - q * y1) (hq : Q ≤ q) (hb : q ≤ 4294967296) (h : 4294967296 ≤ r) : q = Q := by
  have hm := D.mulY q
  have h1 := Int.mul_le_mul hb (show y0 ≤ 4294967295 by have := D.y0l; omega) D.y0n (by omega)
  have := D.dn
  have := D.le_of q (by omega)
  omega

/-- The rest, as it is reckoned with wraps. -/
theorem Digit.rest {U d Y y1 y0 Q R : Int} (D : Digit U d Y y1 y0 Q R) (hYl : Y < 18446744073709551616) : IntKind.u64.wrap (IntKind.u64.wrap (IntKind.u64.wrap (U * 4294967296) + d) - IntKind.u64.wrap (Q * Y)) = R := by
  obtain ⟨hY, y0n, y0l, y1l, y1h, dn, dl, Un, Ul, Qn, Ql, Rn, Rl, eq⟩ := D
  simp only [IntKind.wrap_u64]
  omega

theorem Digit.q_mul {U d Y y1 y0 Q R : Int} (D : Digit U d Y y1 y0 Q R) (q : Int) (h0 : 0 ≤ q) (h : q < 4294967296) : 0 ≤ q * y0 ∧ q * y0 < 18446744073709551616 := by
  refine ⟨Int.mul_nonneg h0 D.y0n, ?_⟩
  have h1 := Int.mul_le_mul (show q ≤ 4294967295 by omega) (show y0 ≤ 4294967295 by have := D.y0l; omega) D.y0n (by omega)
  omega

theorem up_words (lo : Int) (k : Nat) (hk : k ≤ 63) : lo * 2 ^ k = lo / 2 ^ (64 - k) * 18446744073709551616 + lo * 2 ^ k % 18446744073709551616 := by
  have e : (18446744073709551616 : Int) = 2 ^ (64 - k) * 2 ^ k := by
    rw [← Int.pow_add, show 64 - k + k = 64 from by omega]; decide
  have e2 : lo * 2 ^ k / 18446744073709551616 = lo / 2 ^ (64 - k) := by
    rw [e, Int.mul_ediv_mul_of_pos_left _ _ (Int.pow_pos (by decide))]
  have := Int.mul_ediv_add_emod (lo * 2 ^ k) 18446744073709551616
  rw [e2] at this
  omega

theorem up_low (lo : Int) (k : Nat) (hk : k ≤ 63) (h0 : 0 ≤ lo) (h1 : lo < 18446744073709551616) : 0 ≤ lo / 2 ^ (64 - k) ∧ lo / 2 ^ (64 - k) < 2 ^ k := by
  have hp : (0 : Int) < 2 ^ (64 - k) := Int.pow_pos (by decide)
  refine ⟨Int.ediv_nonneg h0 (Int.le_of_lt hp), Int.ediv_lt_of_lt_mul hp ?_⟩
  rw [← Int.pow_add, show k + (64 - k) = 64 from by omega]
  exact h1

theorem or_words (hi lo : Int) (k : Nat) (hk : k ≤ 63) (h0 : 0 ≤ hi) (hh : hi * 2 ^ k < 18446744073709551616) (l0 : 0 ≤ lo) (l1 : lo < 18446744073709551616) :
    bits .or .u64 (hi * 2 ^ k) (lo / 2 ^ (64 - k)) = hi * 2 ^ k + lo / 2 ^ (64 - k) := by
  obtain ⟨a, b⟩ := up_low lo k hk l0 l1
  have hp : (2 : Int) ^ k ≤ 2 ^ 63 := by
    have : (2 : Nat) ^ k ≤ 2 ^ 63 := Nat.pow_le_pow_right (by decide) hk
    exact_mod_cast this
  have e63 : (2 : Int) ^ 63 = 9223372036854775808 := by decide
  rw [e63] at hp
  refine bits_join .u64 64 (by decide) (fun n h h' => ?_) k _ _ (Int.mul_nonneg h0 (Int.le_of_lt (Int.pow_pos (by decide)))) (Int.mul_emod_left _ _) hh a b (by omega)
  rw [IntKind.wrap_u64]
  have e64 : (2 : Int) ^ 64 = 18446744073709551616 := by decide
  rw [e64] at h'
  omega

/-- The whole: both digits make the quotient; the last rest, moved down, is the rest. -/
theorem two_digits {hi lo y Y U V v1 v0 y1 y0 Q1 R1 Q0 R0 : Int} {k : Nat} (hy : 0 < y) (hY : y * 2 ^ k = Y)
    (hU : (hi * 18446744073709551616 + lo) * 2 ^ k = U * 18446744073709551616 + V) (hV : V = v1 * 4294967296 + v0)
    (D1 : Digit U v1 Y y1 y0 Q1 R1) (D0 : Digit R1 v0 Y y1 y0 Q0 R0) :
    (hi * 18446744073709551616 + lo) / y = Q1 * 4294967296 + Q0 ∧ (hi * 18446744073709551616 + lo) % y = R0 / 2 ^ k := by
  have e1 := D1.eq
  have e0 := D0.eq
  have hp : (0 : Int) < 2 ^ k := Int.pow_pos (by decide)
  have r0 := D0.Rn
  have r1 := D0.Rl
  generalize hn : hi * 18446744073709551616 + lo = n at *
  generalize hP : (2 : Int) ^ k = P at *
  have e : n * P = (Q1 * 4294967296 + Q0) * y * P + R0 := by
    rw [Int.mul_assoc, hY, Int.add_mul]
    have : Q1 * 4294967296 * Y = (Q1 * Y) * 4294967296 := by rw [Int.mul_assoc, Int.mul_comm 4294967296 Y, Int.mul_assoc]
    omega
  have hr : R0 = (n - (Q1 * 4294967296 + Q0) * y) * P := by rw [Int.sub_mul]; omega
  generalize hq : Q1 * 4294967296 + Q0 = q at *
  generalize hm : n - q * y = m at *
  have m0 : 0 ≤ m := by
    rcases Int.lt_or_le m 0 with h | h
    · have := Int.mul_neg_of_neg_of_pos h hp; omega
    · exact h
  have m1 : m < y := by
    rcases Int.lt_or_le m y with h | h
    · exact h
    · have := Int.mul_le_mul_of_nonneg_right h (Int.le_of_lt hp); omega
  have hd : R0 / P = m := by rw [hr]; exact Int.mul_ediv_cancel _ (by omega)
  have en : n = m + y * q := by rw [Int.mul_comm y q]; omega
  rw [hd, en]
  constructor
  · rw [Int.add_mul_ediv_left _ _ (by omega), Int.ediv_eq_zero_of_lt m0 m1]; omega
  · rw [Int.add_mul_emod_self_left, Int.emod_eq_of_lt m0 m1]
end Go.Proofs.YthnadgbloamlaaaGreat

/- The contract of math/bits.Div64. -/
namespace Go.Proofs.YthnadgbloamlaaaGreat
open Go.RowKit
set_option linter.unusedSimpArgs false
set_option linter.unusedVariables false

theorem SmallBl (B : Nat) (w : World) (n : Nat) : Below B w (w.drewN n) := ⟨rfl, rfl, rfl, Nat.le_refl _, fun _ _ => rfl⟩
theorem div64_low (lo y : Int) (w : World) (hl : U64 lo) (hy : U64 y) (hlt : 0 < y) :
    Calls Tryz.prog 173 #[.int .u64 0, .int .u64 lo, .int .u64 y] w fun e w' =>
      (e = .returned (.tuple #[.int .u64 (lo / y), .int .u64 (lo % y)])) ∧ Below w.heap.size w w' := by
  obtain ⟨l0, l1⟩ := hl
  obtain ⟨y0, y1⟩ := hy
  have h1 : (y == 0) = false := by simp; omega
  have h2 : ¬ y ≤ 0 := by omega
  go_enter Tryz.func173, Tryz.ntmps173
  go_wp2
  go_quiet (fail)
  go_wp2
  go_ret2
  exact ⟨rfl, SmallBl _ _ _⟩

set_option maxHeartbeats 1000000 in
theorem div64_high (hi lo y : Int) (w : World) (hl : U64 lo) (hy : U64 y) (h0 : 0 < hi) (hlt : hi < y) :
    Calls Tryz.prog 173 #[.int .u64 hi, .int .u64 lo, .int .u64 y] w fun e w' =>
      (e = .returned (.tuple #[.int .u64 ((hi * 18446744073709551616 + lo) / y), .int .u64 ((hi * 18446744073709551616 + lo) % y)])) ∧ Below w.heap.size w w' := by
  obtain ⟨l0, l1⟩ := hl
  obtain ⟨y0, y1⟩ := hy
  have h1 : (y == 0) = false := by simp; omega
  have h2 : ¬ y ≤ hi := by omega
  have h3 : (hi == 0) = false := by simp; omega
  go_enter Tryz.func173, Tryz.ntmps173
  go_wp2_with fail
  refine (lz64_any y _ (by omega) y1).mono ?_
  rintro e w' ⟨⟨s, rfl, hs⟩, rfl⟩
  obtain ⟨k, rfl, hk, b1, b2⟩ := hs
  have hp : (0 : Int) < 2 ^ k := Int.pow_pos (by decide)
  have n1 : 0 ≤ hi * 2 ^ k := Int.mul_nonneg (by omega) (by omega)
  have n2 : hi * 2 ^ k + 2 ^ k ≤ y * 2 ^ k := by
    have := Int.mul_le_mul_of_nonneg_right (show hi + 1 ≤ y by omega) (Int.le_of_lt hp)
    rw [Int.add_mul, Int.one_mul] at this; exact this
  have hor := or_words hi lo k (by omega) (by omega) (by omega) l0 l1
  obtain ⟨n3, n4⟩ := up_low lo k (by omega) l0 l1
  have hwd := up_words lo k (by omega)
  have hUV : (hi * 18446744073709551616 + lo) * 2 ^ k = (hi * 2 ^ k + lo / 2 ^ (64 - k)) * 18446744073709551616 + IntKind.u64.wrap (lo * 2 ^ k) := by
    rw [IntKind.wrap_u64, Int.add_mul, Int.add_mul, Int.mul_assoc, Int.mul_comm 18446744073709551616 (2 ^ k), ← Int.mul_assoc, hwd]
    omega
  have hV : 0 ≤ IntKind.u64.wrap (lo * 2 ^ k) ∧ IntKind.u64.wrap (lo * 2 ^ k) < 18446744073709551616 := by rw [IntKind.wrap_u64]; omega
  rw [← hor] at hUV
  have hU : 0 ≤ bits .or .u64 (hi * 2 ^ k) (lo / 2 ^ (64 - k)) ∧ bits .or .u64 (hi * 2 ^ k) (lo / 2 ^ (64 - k)) < y * 2 ^ k := by rw [hor]; omega
  have HH : Hid ((hi * 18446744073709551616 + lo) * 2 ^ k = bits .or .u64 (hi * 2 ^ k) (lo / 2 ^ (64 - k)) * 18446744073709551616 + IntKind.u64.wrap (lo * 2 ^ k)) := hUV
  clear hUV hwd hor n4
  have hYa := and_low32 (y * 2 ^ k) (by omega) b1
  have hVa := and_low32 (IntKind.u64.wrap (lo * 2 ^ k)) hV.1 hV.2
  have hw1 : IntKind.u64.wrap (hi * 2 ^ k) = hi * 2 ^ k := by rw [IntKind.wrap_u64]; omega
  clear n3 n1 n2
  generalize gY : y * 2 ^ k = Y at *
  generalize gU : bits .or .u64 (hi * 2 ^ k) (lo / 2 ^ (64 - k)) = U at *
  generalize gV : IntKind.u64.wrap (lo * 2 ^ k) = V at *
  obtain ⟨U0, U1⟩ := hU
  obtain ⟨V0, V1⟩ := hV
  have HY : Hid (Y = Y / 4294967296 * 4294967296 + Y % 4294967296) := by show _ = _; omega
  have HV : Hid (V = V / 4294967296 * 4294967296 + V % 4294967296) := by show _ = _; omega
  have a1 : 2147483648 ≤ Y / 4294967296 ∧ Y / 4294967296 < 4294967296 := by omega
  have a0 : 0 ≤ Y % 4294967296 ∧ Y % 4294967296 < 4294967296 := by omega
  have c1 : 0 ≤ V / 4294967296 ∧ V / 4294967296 < 4294967296 := by omega
  have c0 : 0 ≤ V % 4294967296 ∧ V % 4294967296 < 4294967296 := by omega
  generalize gy1 : Y / 4294967296 = y1 at *
  generalize gy0 : Y % 4294967296 = y0 at *
  generalize gv1 : V / 4294967296 = v1 at *
  generalize gv0 : V % 4294967296 = v0 at *
  obtain ⟨a1, a1'⟩ := a1
  obtain ⟨a0, a0'⟩ := a0
  obtain ⟨c1, c1'⟩ := c1
  obtain ⟨c0, c0'⟩ := c0
  obtain ⟨Q1, R1, D1⟩ := digit_mk (U := U) (d := v1) HY.out a0 a0' a1 a1' c1 c1' U0 U1
  obtain ⟨Q0, R0, D0⟩ := digit_mk (U := R1) (d := v0) HY.out a0 a0' a1 a1' c0 c0' D1.Rn D1.Rl
  have fin := two_digits (by omega) gY HH.out HV.out D1 D0
  have HF : Hid ((hi * 18446744073709551616 + lo) / y = Q1 * 4294967296 + Q0 ∧ (hi * 18446744073709551616 + lo) % y = R0 / 2 ^ k) := fin
  clear fin HY HV HH
  obtain ⟨f1, f2, f3, f4, f5⟩ := D1.first
  obtain ⟨s1, s2, s3, s4, s5⟩ := D0.first
  have rR1 := D1.rest b1
  have rR0 := D0.rest b1
  have q1n := D1.Qn
  have q1l := D1.Ql
  have q0n := D0.Qn
  have q0l := D0.Ql
  have r1n := D1.Rn
  have r1l := D1.Rl
  have r0n := D0.Rn
  have r0l := D0.Rl
  generalize gq : U / y1 = qq at *
  generalize gp : R1 / y1 = pp at *
  go_wp2_with fail
  clear gU gV gy0 gv1 gv0 hYa hVa hw1
  go_loop [15, 16] (fun a b => ∃ q r : Int, a = .int .u64 q ∧ b = .int .u64 r ∧ r = U - q * y1 ∧ 0 ≤ r ∧ r < 4294967296 ∧ Q1 ≤ q ∧ q ≤ 4294967297) (fun a _ => (intOf a).toNat)
  case atStart => exact ⟨qq, U - qq * y1, by rw [← gq], by rw [← gq], rfl, by omega, by omega, f1, f2⟩
  case round =>
    clear f1 f2 f3 f4 f5
    obtain ⟨q, r, rfl, rfl, hr, hr0, hr1, hq1, hq2⟩ := hrel
    have HR : Hid (r = U - q * y1) := hr
    clear hr
    by_cases hb : 4294967296 ≤ q
    · have hm := D1.more q r HR.out hq1 (.inl hb)
      have HR' : Hid (r + y1 = U - (q - 1) * y1) := by show _ = _; rw [Int.sub_mul, Int.one_mul]; have := HR.out; omega
      by_cases hbr : 4294967296 ≤ r + y1
      · have hd := D1.broke (q - 1) (r + y1) HR'.out hm (by omega) hbr
        go_wp2_with fail
        clear hq1 hq2 hr0 hr1 hb
        try clear hm hbr hc
        go_loop [18, 16] (fun a b => ∃ q r : Int, a = .int .u64 q ∧ b = .int .u64 r ∧ r = R1 - q * y1 ∧ 0 ≤ r ∧ r < 4294967296 ∧ Q0 ≤ q ∧ q ≤ 4294967297) (fun a _ => (intOf a).toNat)
        case atStart => exact ⟨pp, R1 - pp * y1, rfl, rfl, rfl, by omega, by omega, s1, s2⟩
        case round =>
          obtain ⟨q, r, rfl, rfl, hr, hr0, hr1, hq1, hq2⟩ := hrel
          have HR : Hid (r = R1 - q * y1) := hr
          clear hr
          by_cases hb : 4294967296 ≤ q
          · have hm := D0.more q r HR.out hq1 (.inl hb)
            have HR' : Hid (r + y1 = R1 - (q - 1) * y1) := by show _ = _; rw [Int.sub_mul, Int.one_mul]; have := HR.out; omega
            by_cases hbr : 4294967296 ≤ r + y1
            · have hd := D0.broke (q - 1) (r + y1) HR'.out hm (by omega) hbr
              go_wp2
              go_ret2
              refine ⟨?_, Below.refl _ _⟩
              rw [HF.out.1, HF.out.2]
              rfl
            · go_wp2
              go_round
              case rel => exact ⟨q - 1, r + y1, rfl, rfl, HR'.out, by omega, by omega, hm, by omega⟩
              case measure => simp [intOf]; omega
          · obtain ⟨m0, m1⟩ := D0.q_mul q (by omega) (by omega)
            by_cases hc : 4294967296 * r + v0 < q * y0
            · have hm := D0.more q r HR.out hq1 (.inr hc)
              have HR' : Hid (r + y1 = R1 - (q - 1) * y1) := by show _ = _; rw [Int.sub_mul, Int.one_mul]; have := HR.out; omega
              by_cases hbr : 4294967296 ≤ r + y1
              · have hd := D0.broke (q - 1) (r + y1) HR'.out hm (by omega) hbr
                go_wp2
                go_ret2
                refine ⟨?_, Below.refl _ _⟩
                rw [HF.out.1, HF.out.2]
                rfl
              · go_wp2
                go_round
                case rel => exact ⟨q - 1, r + y1, rfl, rfl, HR'.out, by omega, by omega, hm, by omega⟩
                case measure => simp [intOf]; omega
            · have hd := D0.done q r HR.out hq1 hc
              subst hd
              go_wp2
              go_ret2
              refine ⟨?_, Below.refl _ _⟩
              rw [HF.out.1, HF.out.2]
              rfl
      · go_wp2
        go_round
        case rel => exact ⟨q - 1, r + y1, rfl, rfl, HR'.out, by omega, by omega, hm, by omega⟩
        case measure => simp [intOf]; omega
    · obtain ⟨m0, m1⟩ := D1.q_mul q (by omega) (by omega)
      by_cases hc : 4294967296 * r + v1 < q * y0
      · have hm := D1.more q r HR.out hq1 (.inr hc)
        have HR' : Hid (r + y1 = U - (q - 1) * y1) := by show _ = _; rw [Int.sub_mul, Int.one_mul]; have := HR.out; omega
        by_cases hbr : 4294967296 ≤ r + y1
        · have hd := D1.broke (q - 1) (r + y1) HR'.out hm (by omega) hbr
          go_wp2_with fail
          clear hq1 hq2 hr0 hr1 hb
          try clear hm hbr hc
          go_loop [18, 16] (fun a b => ∃ q r : Int, a = .int .u64 q ∧ b = .int .u64 r ∧ r = R1 - q * y1 ∧ 0 ≤ r ∧ r < 4294967296 ∧ Q0 ≤ q ∧ q ≤ 4294967297) (fun a _ => (intOf a).toNat)
          case atStart => exact ⟨pp, R1 - pp * y1, rfl, rfl, rfl, by omega, by omega, s1, s2⟩
          case round =>
            obtain ⟨q, r, rfl, rfl, hr, hr0, hr1, hq1, hq2⟩ := hrel
            have HR : Hid (r = R1 - q * y1) := hr
            clear hr
            by_cases hb : 4294967296 ≤ q
            · have hm := D0.more q r HR.out hq1 (.inl hb)
              have HR' : Hid (r + y1 = R1 - (q - 1) * y1) := by show _ = _; rw [Int.sub_mul, Int.one_mul]; have := HR.out; omega
              by_cases hbr : 4294967296 ≤ r + y1
              · have hd := D0.broke (q - 1) (r + y1) HR'.out hm (by omega) hbr
                go_wp2
                go_ret2
                refine ⟨?_, Below.refl _ _⟩
                rw [HF.out.1, HF.out.2]
                rfl
              · go_wp2
                go_round
                case rel => exact ⟨q - 1, r + y1, rfl, rfl, HR'.out, by omega, by omega, hm, by omega⟩
                case measure => simp [intOf]; omega
            · obtain ⟨m0, m1⟩ := D0.q_mul q (by omega) (by omega)
              by_cases hc : 4294967296 * r + v0 < q * y0
              · have hm := D0.more q r HR.out hq1 (.inr hc)
                have HR' : Hid (r + y1 = R1 - (q - 1) * y1) := by show _ = _; rw [Int.sub_mul, Int.one_mul]; have := HR.out; omega
                by_cases hbr : 4294967296 ≤ r + y1
                · have hd := D0.broke (q - 1) (r + y1) HR'.out hm (by omega) hbr
                  go_wp2
                  go_ret2
                  refine ⟨?_, Below.refl _ _⟩
                  rw [HF.out.1, HF.out.2]
                  rfl
                · go_wp2
                  go_round
                  case rel => exact ⟨q - 1, r + y1, rfl, rfl, HR'.out, by omega, by omega, hm, by omega⟩
                  case measure => simp [intOf]; omega
              · have hd := D0.done q r HR.out hq1 hc
                subst hd
                go_wp2
                go_ret2
                refine ⟨?_, Below.refl _ _⟩
                rw [HF.out.1, HF.out.2]
                rfl
        · go_wp2
          go_round
          case rel => exact ⟨q - 1, r + y1, rfl, rfl, HR'.out, by omega, by omega, hm, by omega⟩
          case measure => simp [intOf]; omega
      · have hd := D1.done q r HR.out hq1 hc
        subst hd
        go_wp2_with fail
        clear hq1 hq2 hr0 hr1 hb
        try clear hm hbr hc
        go_loop [18, 16] (fun a b => ∃ q r : Int, a = .int .u64 q ∧ b = .int .u64 r ∧ r = R1 - q * y1 ∧ 0 ≤ r ∧ r < 4294967296 ∧ Q0 ≤ q ∧ q ≤ 4294967297) (fun a _ => (intOf a).toNat)
        case atStart => exact ⟨pp, R1 - pp * y1, rfl, rfl, rfl, by omega, by omega, s1, s2⟩
        case round =>
          obtain ⟨q, r, rfl, rfl, hr, hr0, hr1, hq1, hq2⟩ := hrel
          have HR : Hid (r = R1 - q * y1) := hr
          clear hr
          by_cases hb : 4294967296 ≤ q
          · have hm := D0.more q r HR.out hq1 (.inl hb)
            have HR' : Hid (r + y1 = R1 - (q - 1) * y1) := by show _ = _; rw [Int.sub_mul, Int.one_mul]; have := HR.out; omega
            by_cases hbr : 4294967296 ≤ r + y1
            · have hd := D0.broke (q - 1) (r + y1) HR'.out hm (by omega) hbr
              go_wp2
              go_ret2
              refine ⟨?_, Below.refl _ _⟩
              rw [HF.out.1, HF.out.2]
              rfl
            · go_wp2
              go_round
              case rel => exact ⟨q - 1, r + y1, rfl, rfl, HR'.out, by omega, by omega, hm, by omega⟩
              case measure => simp [intOf]; omega
          · obtain ⟨m0, m1⟩ := D0.q_mul q (by omega) (by omega)
            by_cases hc : 4294967296 * r + v0 < q * y0
            · have hm := D0.more q r HR.out hq1 (.inr hc)
              have HR' : Hid (r + y1 = R1 - (q - 1) * y1) := by show _ = _; rw [Int.sub_mul, Int.one_mul]; have := HR.out; omega
              by_cases hbr : 4294967296 ≤ r + y1
              · have hd := D0.broke (q - 1) (r + y1) HR'.out hm (by omega) hbr
                go_wp2
                go_ret2
                refine ⟨?_, Below.refl _ _⟩
                rw [HF.out.1, HF.out.2]
                rfl
              · go_wp2
                go_round
                case rel => exact ⟨q - 1, r + y1, rfl, rfl, HR'.out, by omega, by omega, hm, by omega⟩
                case measure => simp [intOf]; omega
            · have hd := D0.done q r HR.out hq1 hc
              subst hd
              go_wp2
              go_ret2
              refine ⟨?_, Below.refl _ _⟩
              rw [HF.out.1, HF.out.2]
              rfl
end Go.Proofs.YthnadgbloamlaaaGreat

/- The contract of wide.MulDiv. -/
namespace Go.Proofs.YthnadgbloamlaaaGreat
open Go.RowKit
set_option linter.unusedSimpArgs false
set_option linter.unusedVariables false

theorem div64_any (p y : Int) (w : World) (hp : 0 ≤ p) (hy : U64 y) (hlt : p / 18446744073709551616 < y) :
    Calls Tryz.prog 173 #[.int .u64 (p / 18446744073709551616), .int .u64 (p % 18446744073709551616), .int .u64 y] w fun e w' =>
      (e = .returned (.tuple #[.int .u64 (p / y), .int .u64 (p % y)])) ∧ Bl w w' := by
  have hl : U64 (p % 18446744073709551616) := ⟨by omega, by omega⟩
  have e : p = p / 18446744073709551616 * 18446744073709551616 + p % 18446744073709551616 := by omega
  rcases (by omega : p / 18446744073709551616 = 0 ∨ 0 < p / 18446744073709551616) with h | h
  · have := div64_low (p % 18446744073709551616) y w hl hy (by omega)
    rw [h]
    rw [h, Int.zero_mul, Int.zero_add] at e
    rw [← e] at this
    rw [← e]
    exact this
  · have := div64_high (p / 18446744073709551616) (p % 18446744073709551616) y w hl hy h hlt
    rw [← e] at this
    exact this

/-- Is a times b by c below 0? -/
def belB (a b c : Int) : Bool := decide (a * b * c < 0)
/-- What is left of a times b by c, without signs, rounded. -/
def mdC (a b c mode : Int) : Int := upI (szI a * szI b / szI c) (outB (szI a * szI b / szI c) (szI a * szI b % szI c) (szI c) (belB a b c) mode)
def mdG (a b c mode : Int) : Bool := rightB a && rightB b && rightB c && !(c == 0) && modeB mode
/-- P1.1: MulDiv. -/
def mdN (a b c mode : Int) : Int := if mdG a b c mode then rdN (mdC a b c mode) (belB a b c) else 0
def mdB (a b c mode : Int) : Bool := mdG a b c mode && rdB (mdC a b c mode)

theorem upI_le (q : Int) (o : Bool) : q ≤ upI q o := by unfold upI; split <;> omega

set_option maxHeartbeats 1000000 in
theorem mulDiv_good (a b c mode : Int) (ha : rightB a = true) (hb : rightB b = true) (hc : rightB c = true) (hz : (c == 0) = false) (hm : modeB mode = true) (w : World) :
    Calls Tryz.prog 161 #[.int .i64 a, .int .i64 b, .int .i64 c, .int .i64 mode] w fun e w' =>
      e = .returned (.tuple #[.int .i64 (rdN (mdC a b c mode) (belB a b c)), .bool (rdB (mdC a b c mode))]) ∧ Bl w w' := by
  have e1 : wrap64 (cmpI a 0 * cmpI b 0) = cmpI (a * b) 0 := by rw [sgn_mul]; exact wrap64_unit (cmpI_bd _ _)
  have e2 : wrap64 (cmpI (a * b) 0 * cmpI c 0) = cmpI (a * b * c) 0 := by rw [sgn_mul]; exact wrap64_unit (cmpI_bd _ _)
  have e3 : decide (cmpI (a * b * c) 0 < 0) = belB a b c := by
    unfold belB
    rcases cmpI_three (a * b * c) 0 with ⟨h, e⟩ | ⟨h, e⟩ | ⟨h, e⟩ <;> rw [e] <;> simp <;> omega
  have hp := mul_hi (szI_right ha) (szI_right hb)
  have hd := szI_right hc
  have hd0 : 0 < szI c := by
    have : c ≠ 0 := by simpa using hz
    unfold szI; split <;> omega
  have ia := right_i64 ha
  have ib := right_i64 hb
  have ic := right_i64 hc
  unfold mdC
  have P := product_any a b ia ib
  have S := size_any c ic
  generalize szI a * szI b = p at *
  generalize szI c = d at *
  generalize belB a b c = bl at *
  have HP : Hid _ := P
  have HS : Hid _ := S
  clear P S
  by_cases hbig : d ≤ p / 18446744073709551616
  · have hq : 4611686018427387903 < p / d := by
      have := (Int.le_ediv_iff_mul_le (c := d) (a := 18446744073709551616) (b := p) hd0).2 (by omega)
      omega
    have hu := upI_le (p / d) (outB (p / d) (p % d) d bl mode)
    have r1 : rdN (upI (p / d) (outB (p / d) (p % d) d bl mode)) bl = 0 := by unfold rdN; rw [if_pos (by omega)]
    have r2 : rdB (upI (p / d) (outB (p / d) (p % d) d bl mode)) = false := by unfold rdB; exact decide_eq_false (by omega)
    rw [r1, r2]
    clear r1 r2 hu hq e1 e2 e3
    go_enter Tryz.func161, Tryz.ntmps161
    go_wp2_with (first
      | (go_at_call 199; refine (right_any _ _).mono ?_; rintro e w' ⟨rfl, rfl⟩)
      | (go_at_call 200; refine (isMode_any _ _).mono ?_; rintro e w' ⟨rfl, rfl⟩))
    refine (HP.out _).mono ?_
    rintro e w1 ⟨rfl, h1⟩
    go_wp2_with fail
    refine (HS.out _).mono ?_
    rintro e w2 ⟨rfl, rfl⟩
    go_wp2
    go_ret2
    exact ⟨rfl, h1.alloc _⟩
  · go_enter Tryz.func161, Tryz.ntmps161
    go_wp2_with (first
      | (go_at_call 199; refine (right_any _ _).mono ?_; rintro e w' ⟨rfl, rfl⟩)
      | (go_at_call 200; refine (isMode_any _ _).mono ?_; rintro e w' ⟨rfl, rfl⟩))
    refine (HP.out _).mono ?_
    rintro e w1 ⟨rfl, h1⟩
    go_wp2_with fail
    refine (HS.out _).mono ?_
    rintro e w2 ⟨rfl, rfl⟩
    go_wp2_with fail
    refine (div64_any p d _ hp.1 (by unfold U64; omega) (by omega)).mono ?_
    rintro e w3 ⟨rfl, h3⟩
    have q0 : 0 ≤ p / d := Int.ediv_nonneg hp.1 (by omega)
    have r0 : 0 ≤ p % d := Int.emod_nonneg _ (by omega)
    have r1 : p % d < d := Int.emod_lt_of_pos _ hd0
    have R := rounded_any (p / d) (p % d) d mode bl r0 (by omega) q0 hm
    have HR : Hid _ := R
    clear R
    go_wp2_with (go_at_call 203; refine (sign_any _ _).mono ?_; rintro e w' ⟨rfl, rfl⟩)
    refine (HR.out _).mono ?_
    rintro e w4 ⟨rfl, rfl⟩
    go_wp2
    go_ret2
    exact ⟨rfl, (h1.alloc _).trans h3⟩

theorem mulDiv_any (a b c mode : Int) (w : World) :
    Calls Tryz.prog 161 #[.int .i64 a, .int .i64 b, .int .i64 c, .int .i64 mode] w fun e w' =>
      e = .returned (.tuple #[.int .i64 (mdN a b c mode), .bool (mdB a b c mode)]) ∧ Bl w w' := by
  unfold mdN mdB mdG
  cases ha : rightB a
  · go_enter Tryz.func161, Tryz.ntmps161
    go_wp2_with (first
      | (go_at_call 199; refine (right_any _ _).mono ?_; rintro e w' ⟨rfl, rfl⟩)
      | (go_at_call 200; refine (isMode_any _ _).mono ?_; rintro e w' ⟨rfl, rfl⟩))
    go_ret2
    exact ⟨rfl, Bl.refl _⟩
  cases hb : rightB b
  · go_enter Tryz.func161, Tryz.ntmps161
    go_wp2_with (first
      | (go_at_call 199; refine (right_any _ _).mono ?_; rintro e w' ⟨rfl, rfl⟩)
      | (go_at_call 200; refine (isMode_any _ _).mono ?_; rintro e w' ⟨rfl, rfl⟩))
    go_ret2
    exact ⟨rfl, Bl.refl _⟩
  cases hc : rightB c
  · go_enter Tryz.func161, Tryz.ntmps161
    go_wp2_with (first
      | (go_at_call 199; refine (right_any _ _).mono ?_; rintro e w' ⟨rfl, rfl⟩)
      | (go_at_call 200; refine (isMode_any _ _).mono ?_; rintro e w' ⟨rfl, rfl⟩))
    go_ret2
    exact ⟨rfl, Bl.refl _⟩
  cases hz : (c == 0)
  case true =>
    go_enter Tryz.func161, Tryz.ntmps161
    go_wp2_with (first
      | (go_at_call 199; refine (right_any _ _).mono ?_; rintro e w' ⟨rfl, rfl⟩)
      | (go_at_call 200; refine (isMode_any _ _).mono ?_; rintro e w' ⟨rfl, rfl⟩))
    go_ret2
    exact ⟨rfl, Bl.refl _⟩
  case false =>
    cases hm : modeB mode
    case false =>
      go_enter Tryz.func161, Tryz.ntmps161
      go_wp2_with (first
        | (go_at_call 199; refine (right_any _ _).mono ?_; rintro e w' ⟨rfl, rfl⟩)
        | (go_at_call 200; refine (isMode_any _ _).mono ?_; rintro e w' ⟨rfl, rfl⟩))
      go_ret2
      exact ⟨rfl, Bl.refl _⟩
    case true => exact mulDiv_good a b c mode ha hb hc hz hm w
end Go.Proofs.YthnadgbloamlaaaGreat

/- Contracts of fx.Right, fx.told, and of the document's Right and Told (layer 2). -/
namespace Go.Proofs.YthnadgbloamlaaaGreat
open Go.RowKit
set_option linter.unusedSimpArgs false
set_option linter.unusedVariables false

/-- May the number of units be (P2.1)? -/
def frB (n : Int) : Bool := decide (-1125899906842624 ≤ n) && decide (n ≤ 1125899906842624)
theorem frB_iff {n : Int} : frB n = true ↔ -1125899906842624 ≤ n ∧ n ≤ 1125899906842624 := by simp [frB]
theorem frB_eq {n : Int} (h : -1125899906842624 ≤ n ∧ n ≤ 1125899906842624) : frB n = true := frB_iff.2 h
theorem frB_right {n : Int} (h : frB n = true) : rightB n = true := by have := frB_iff.1 h; exact rightB_eq (by omega)
/-- A number, where it is told. -/
def toN (x : Int) (ok : Bool) : Int := if ok then x else 0
theorem toN_t (x : Int) : toN x true = x := rfl
theorem toN_f (x : Int) : toN x false = 0 := rfl
theorem toN_bd (x : Int) (ok : Bool) (h : ok = true → frB x = true) : -1125899906842624 ≤ toN x ok ∧ toN x ok ≤ 1125899906842624 := by
  cases ok
  · rw [toN_f]; omega
  · rw [toN_t]; exact frB_iff.1 (h rfl)

theorem fright_any (n : Int) (w : World) :
    Calls Tryz.prog 106 #[.int .i64 n] w fun e w' => e = .returned (.bool (frB n)) ∧ w' = w := by
  unfold frB
  by_cases h : -1125899906842624 ≤ n
  · by_cases h2 : n ≤ 1125899906842624
    · go_enter Tryz.func106, Tryz.ntmps106
      go_wp2
      go_ret
      exact ⟨by simp [h, h2], rfl⟩
    · go_enter Tryz.func106, Tryz.ntmps106
      go_wp2
      go_ret
      exact ⟨by simp [h, h2], rfl⟩
  · go_enter Tryz.func106, Tryz.ntmps106
    go_wp2
    go_ret
    exact ⟨by simp; omega, rfl⟩

/-- What a number came of: all of it may be. -/
def allB (xs : List Int) : Bool := xs.all frB
theorem allB_take (xs : List Int) (k : Nat) (h : k < xs.length) (ht : allB (xs.take k) = true) : allB (xs.take (k + 1)) = frB (xs.getD k 0) := by
  rw [List.take_succ_eq_append_getElem h]
  unfold allB at ht ⊢
  rw [List.all_append, ht]
  simp [List.getD_eq_getElem?_getD, h]
theorem allB_false (xs : List Int) (k : Nat) (h : k < xs.length) (hf : frB (xs.getD k 0) = false) : allB xs = false := by
  unfold allB
  rw [Bool.eq_false_iff, ne_eq, List.all_eq_true]
  intro hall
  have := hall (xs[k]) (List.getElem_mem h)
  rw [List.getD_eq_getElem?_getD, List.getElem?_eq_getElem h] at hf
  simp [this] at hf

theorem told_no (n : Int) (is : Bool) (h : (is && frB n) = false) (v : Value) (w : World) :
    Calls Tryz.prog 162 #[.int .i64 n, .bool is, v] w fun e w' => e = .returned (.tuple #[.int .i64 0, .bool false]) ∧ w' = w := by
  cases is
  · clear h
    go_enter Tryz.func162, Tryz.ntmps162
    go_wp2_with (go_at_call 106; refine (fright_any _ _).mono ?_; rintro e w' ⟨rfl, rfl⟩)
    go_ret2
    exact ⟨rfl, rfl⟩
  · have hf : frB n = false := by simpa using h
    clear h
    go_enter Tryz.func162, Tryz.ntmps162
    go_wp2_with (go_at_call 106; refine (fright_any _ _).mono ?_; rintro e w' ⟨rfl, rfl⟩)
    go_ret2
    exact ⟨rfl, rfl⟩

theorem told_nil (n : Int) (is : Bool) (w : World) :
    Calls Tryz.prog 162 #[.int .i64 n, .bool is, .slice none 0 0] w fun e w' => e = .returned (.tuple #[.int .i64 (toN n (is && frB n)), .bool (is && frB n)]) ∧ w' = w := by
  cases h : (is && frB n)
  · exact told_no n is h _ w
  · rw [Bool.and_eq_true] at h
    obtain ⟨rfl, hf⟩ := h
    go_enter Tryz.func162, Tryz.ntmps162
    go_wp2_with (go_at_call 106; refine (fright_any _ _).mono ?_; rintro e w' ⟨rfl, rfl⟩)
    go_loop [19] (fun i => i = .int .i64 0) (fun i => 0)
    case atStart => rfl
    case round =>
      subst hrel
      go_wp2
      go_ret2
      exact ⟨rfl, rfl⟩

theorem told_any (n : Int) (is : Bool) (b o : Nat) (xs : List Int) (w : World) (hl : xs.length ≤ 8)
    (hc : ∀ k, k < xs.length → w.cell? ⟨b, o + k, none⟩ = some (.int .i64 (xs.getD k 0))) :
    Calls Tryz.prog 162 #[.int .i64 n, .bool is, .slice (some ⟨b, o, none⟩) xs.length xs.length] w fun e w' =>
      e = .returned (.tuple #[.int .i64 (toN n (is && frB n && allB xs)), .bool (is && frB n && allB xs)]) ∧ w' = w := by
  cases h : (is && frB n)
  · exact told_no n is h _ w
  · rw [Bool.and_eq_true] at h
    obtain ⟨rfl, hf⟩ := h
    go_enter Tryz.func162, Tryz.ntmps162
    go_wp2_with (go_at_call 106; refine (fright_any _ _).mono ?_; rintro e w' ⟨rfl, rfl⟩)
    go_loop [19] (fun i => ∃ k : Nat, k ≤ xs.length ∧ i = .int .i64 k ∧ allB (xs.take k) = true) (fun i => xs.length - (intOf i).toNat)
    case atStart => exact ⟨0, by omega, rfl, rfl⟩
    case round =>
      obtain ⟨k, hk, rfl, ha⟩ := hrel
      by_cases hlt : k < xs.length
      · have hck := hc k hlt
        have hs := allB_take xs k hlt ha
        have hno := allB_false xs k hlt
        generalize xs.getD k 0 = x at *
        have HS := hideP hs
        have HN := hideP hno
        clear hs hno ha hc
        cases hx : frB x
        · go_wp2_with (go_at_call 106; refine (fright_any _ _).mono ?_; rintro e w' ⟨rfl, rfl⟩)
          go_ret2
          exact ⟨by rw [HN.out hx]; rfl, rfl⟩
        · go_wp2_with (go_at_call 106; refine (fright_any _ _).mono ?_; rintro e w' ⟨rfl, rfl⟩)
          go_round
          case rel => exact ⟨k + 1, by omega, by go_num, by rw [HS.out]; exact hx⟩
          case measure => simp [intOf]; omega
      · have HA := hideP ha
        clear ha hc
        go_wp2
        go_ret2
        have e : xs.take k = xs := List.take_of_length_le (by omega)
        refine ⟨?_, rfl⟩
        have := HA.out
        rw [e] at this
        rw [this]; rfl
end Go.Proofs.YthnadgbloamlaaaGreat

/- awake; the walks of WideSquares, WideBack, WideSigns, WideModes. -/
namespace Go.Proofs.YthnadgbloamlaaaGreat
open Go.RowKit
set_option linter.unusedSimpArgs false
set_option linter.unusedVariables false

theorem outB_zero (r g : Int) (b : Bool) (m : Int) (h : 0 < g) : outB r 0 g b m = false := by
  unfold outB
  split
  · simp
  · split
    · simp
    · rw [decide_eq_false (by omega : ¬ g < 2 * 0), decide_eq_false (by omega : ¬ 2 * 0 = g)]; rfl
theorem md_exact (a b c n m : Int) (ha : rightB a = true) (hb : rightB b = true) (hc : rightB c = true) (hn : rightB n = true) (hz : c ≠ 0) (hm : modeB m = true) (h : a * b = n * c) :
    mdN a b c m = n ∧ mdB a b c m = true := by
  have hg : mdG a b c m = true := by unfold mdG; rw [ha, hb, hc, hm]; simp [hz]
  have hd0 : 0 < szI c := by unfold szI; split <;> omega
  have hsn := szI_right hn
  have e : szI a * szI b = szI n * szI c := by rw [szI_mul, szI_mul, h]
  have hC : mdC a b c m = szI n := by
    unfold mdC
    rw [e, Int.mul_ediv_cancel _ (by omega), Int.mul_emod_left, outB_zero _ _ _ _ hd0]
    rfl
  have hbl : belB a b c = decide (n < 0) := by
    unfold belB
    rw [h, Int.mul_assoc]
    have hcc : 0 < c * c := by
      rcases Int.lt_or_gt_of_ne hz with k | k
      · exact Int.mul_pos_of_neg_of_neg k k
      · exact Int.mul_pos k k
    rcases (by omega : n < 0 ∨ n = 0 ∨ 0 < n) with k | k | k
    · have := Int.mul_neg_of_neg_of_pos k hcc; simp [k, this]
    · subst k; simp
    · have := Int.mul_pos k hcc
      rw [decide_eq_false (by omega), decide_eq_false (by omega)]
  unfold mdN mdB
  rw [hg, hC, hbl]
  constructor
  · rw [if_pos rfl]; unfold rdN; rw [if_neg (by omega)]
    unfold szI
    by_cases k : n < 0 <;> simp [k]
  · unfold rdB; simp; omega
theorem md_bad (a b c m : Int) (h : mdG a b c m = false) : mdN a b c m = 0 ∧ mdB a b c m = false := by
  unfold mdN mdB; rw [h]; exact ⟨rfl, rfl⟩
theorem mdG_bad {a b c m : Int} (h : rightB a = false ∨ rightB b = false ∨ rightB c = false) : mdG a b c m = false := by
  unfold mdG; rcases h with h | h | h <;> rw [h] <;> simp
theorem right_neg {a : Int} : rightB (-a) = rightB a := by
  unfold rightB
  rw [Bool.eq_iff_iff]; simp; omega
end Go.Proofs.YthnadgbloamlaaaGreat

/- The contract of the document's MulDiv. -/
namespace Go.Proofs.YthnadgbloamlaaaGreat
open Go.RowKit
set_option linter.unusedSimpArgs false
set_option linter.unusedVariables false

theorem div_le_self {N D : Int} (h0 : 0 ≤ N) (hD : 0 < D) : 0 ≤ N / D ∧ N / D ≤ N := ⟨Int.ediv_nonneg h0 (by omega), Int.ediv_le_self _ h0⟩

end Go.Proofs.YthnadgbloamlaaaGreat

/- The walk of WideDivides. -/
namespace Go.Proofs.YthnadgbloamlaaaGreat
open Go.RowKit
set_option linter.unusedSimpArgs false
set_option linter.unusedVariables false

end Go.Proofs.YthnadgbloamlaaaGreat

/- The contract of the document's Root. -/
namespace Go.Proofs.YthnadgbloamlaaaGreat
open Go.RowKit
set_option linter.unusedSimpArgs false
set_option linter.unusedVariables false

end Go.Proofs.YthnadgbloamlaaaGreat
