/- Joseph's update in fractions: P less u times u by the spread; two of them tell the same whichever comes first. Mathematics alone. -/
import Derived.Test.YtljmggemdkfbiaaGreatJo0
import Derived.Test.YtljmggemdkfbiaaGreatHsQ
namespace Go.Proofs.YtljmggemdkfbiaaGreat
open Go.RowKit
set_option linter.unusedSimpArgs false
set_option linter.unusedVariables false

theorem dot_lin {n : Nat} {x y : Nat → Fr} (h : fineR (dotF (linJ n x) (linJ n y)) = true) : (∀ c, c < n → fineR (x c) = true ∧ fineR (y c) = true) ∧ toQ (dotF (linJ n x) (linJ n y)) = sumH n fun c => toQ (x c) * toQ (y c) := by
  have e : ∀ f : Nat → Fr, linJ n f = tailH n 0 f := fun f => by simp [tailH, linJ]
  rw [e, e] at h ⊢
  obtain ⟨h1, h2⟩ := dot_tail h
  refine ⟨fun c hc => h1 c (Nat.zero_le _) hc, h2.trans ?_⟩
  unfold dT
  rw [Nat.sub_zero]
  exact sumH_congr _ fun j _ => by rw [Nat.zero_add]
theorem mulK_q {M : Nat} {f g : Nat → Nat → Fr} {i k : Nat} (h : fineR (mulK kdF M f g i k) = true) : (∀ c, c < M → fineR (f i c) = true ∧ fineR (g c k) = true) ∧ toQ (mulK kdF M f g i k) = sumH M fun c => toQ (f i c) * toQ (g c k) :=
  dot_lin (x := f i) (y := fun c => g c k) h
theorem outer_q {c r : Nat → Fr} {i k : Nat} (h : fineR (outerJ kdF c r i k) = true) : fineR (c i) = true ∧ fineR (r k) = true ∧ toQ (outerJ kdF c r i k) = toQ (c i) * toQ (r k) := by
  obtain ⟨h1, h2⟩ := mulK_q h
  refine ⟨(h1 0 (by decide)).1, (h1 0 (by decide)).2, h2.trans ?_⟩
  show (0 : Rat) + toQ (c i) * toQ (r k) = _
  rw [Rat.zero_add]
theorem sumH_mulr (f : Nat → Rat) (s : Rat) : ∀ n, sumH n (fun j => f j * s) = sumH n f * s
  | 0 => by show (0 : Rat) = 0 * s; rw [Rat.zero_mul]
  | n + 1 => by show sumH n (fun j => f j * s) + f n * s = (sumH n f + f n) * s; rw [sumH_mulr f s n, Rat.add_mul]
theorem sumH_add (f g : Nat → Rat) : ∀ n, sumH n (fun j => f j + g j) = sumH n f + sumH n g
  | 0 => by show (0 : Rat) = 0 + 0; rw [Rat.zero_add]
  | n + 1 => by
    show sumH n (fun j => f j + g j) + (f n + g n) = (sumH n f + f n) + (sumH n g + g n)
    rw [sumH_add f g n]
    grind
theorem sumH_swap (f : Nat → Nat → Rat) (m : Nat) : ∀ n, sumH n (fun j => sumH m (fun l => f j l)) = sumH m (fun l => sumH n (fun j => f j l))
  | 0 => (sumH_zero m (fun _ _ => rfl)).symm
  | n + 1 => by
    show sumH n (fun j => sumH m (fun l => f j l)) + sumH m (fun l => f n l) = sumH m (fun l => sumH n (fun j => f j l) + f n l)
    rw [sumH_swap f m n, sumH_add]
theorem sumH_delta (f : Nat → Rat) (i : Nat) : ∀ n, sumH n (fun l => (if i = l then (1 : Rat) else 0) * f l) = if i < n then f i else 0
  | 0 => by rw [if_neg (by omega)]; rfl
  | n + 1 => by
    show sumH n (fun l => (if i = l then (1 : Rat) else 0) * f l) + (if i = n then (1 : Rat) else 0) * f n = _
    rw [sumH_delta f i n]
    by_cases h : i = n
    · subst h
      rw [if_neg (by omega), if_pos rfl, if_pos (by omega), Rat.zero_add, Rat.one_mul]
    · rw [if_neg h, Rat.zero_mul, Rat.add_zero]
      by_cases h2 : i < n
      · rw [if_pos h2, if_pos (by omega)]
      · rw [if_neg h2, if_neg (by omega)]
/-- The sum of an update. -/
theorem around_sum {n : Nat} {P : Nat → Nat → Rat} {H U : Nat → Rat} {A R : Rat} {i k : Nat} (hi : i < n) (hk : k < n) (hP : ∀ a b, a < n → b < n → P a b = P b a) (hU : ∀ c, c < n → U c = sumH n fun j => P c j * H j)
    (hA : A = (sumH n fun j => H j * U j) + R) (h0 : A ≠ 0) (Ki Kk : Rat) (hKi : Ki = U i / A) (hKk : Kk = U k / A) :
    (sumH n fun j => (sumH n fun l => ((if i = l then (1 : Rat) else 0) - Ki * H l) * P l j) * ((if k = j then (1 : Rat) else 0) - Kk * H j)) + Ki * R * Kk = P i k - U i * U k / A := by
  have inner : ∀ j, j < n → (sumH n fun l => ((if i = l then (1 : Rat) else 0) - Ki * H l) * P l j) = P i j - U j * Ki := fun j hj => by
    have e := sumH_lin (fun l => (if i = l then (1 : Rat) else 0) * P l j) (fun l => P j l * H l) Ki n
    rw [sumH_delta (fun l => P l j) i n, if_pos hi, ← hU j hj] at e
    rw [← e]
    exact sumH_congr _ fun l hl => by rw [hP j l hj hl]; grind
  have outer : (sumH n fun j => (sumH n fun l => ((if i = l then (1 : Rat) else 0) - Ki * H l) * P l j) * ((if k = j then (1 : Rat) else 0) - Kk * H j)) = (P i k - U k * Ki) - (U i - (A - R) * Ki) * Kk := by
    have e1 : (sumH n fun j => (P i j - U j * Ki) * H j) = U i - (A - R) * Ki := by
      have e := sumH_lin (fun j => P i j * H j) (fun j => H j * U j) Ki n
      rw [← hU i hi] at e
      have e2 : (sumH n fun j => H j * U j) = A - R := by rw [hA]; grind
      rw [e2] at e
      rw [← e]
      exact sumH_congr _ fun j _ => by grind
    have e := sumH_lin (fun j => (if k = j then (1 : Rat) else 0) * (P i j - U j * Ki)) (fun j => (P i j - U j * Ki) * H j) Kk n
    rw [sumH_delta (fun j => P i j - U j * Ki) k n, if_pos hk, e1] at e
    rw [← e]
    exact sumH_congr _ fun j hj => by rw [inner j hj]; grind
  rw [outer, hKi, hKk]
  grind
theorem around_q {n : Nat} {m p : Nat → Nat → Fr} {i k : Nat} (h : fineR (aroundJ kdF n m p i k) = true) :
    (∀ c, c < n → fineR (m i c) = true) ∧ (∀ c, c < n → fineR (m k c) = true) ∧ (∀ a b, a < n → b < n → fineR (p a b) = true) ∧
    toQ (aroundJ kdF n m p i k) = sumH n fun j => (sumH n fun l => toQ (m i l) * toQ (p l j)) * toQ (m k j) := by
  obtain ⟨h1, h2⟩ := mulK_q h
  have hm : ∀ c, c < n → fineR (m i c) = true := fun c hc => ((mulK_q (h1 c hc).1).1 c hc).1
  refine ⟨hm, fun c hc => (h1 c hc).2, fun a b ha hb => ((mulK_q (h1 b hb).1).1 a ha).2, h2.trans ?_⟩
  exact sumH_congr _ fun j hj => by rw [(mulK_q (h1 j hj).1).2]
/-- What an update tells, where it is fine. -/
structure UpQ (n : Nat) (p : Nat → Nat → Fr) (h : Nat → Fr) (r : Fr) (i k : Nat) (z : Fr) : Prop where
  fp : ∀ a b, a < n → b < n → fineR (p a b) = true
  fh : ∀ c, c < n → fineR (h c) = true
  ne : toQ (spreadJ kdF n p h r) ≠ 0
  fu : ∀ c, c < n → fineR (appJ kdF n p h c) = true ∧ toQ (appJ kdF n p h c) = sumH n fun j => toQ (p c j) * toQ (h j)
  ea : toQ (spreadJ kdF n p h r) = (sumH n fun j => toQ (h j) * toQ (appJ kdF n p h j)) + toQ r
  ez : toQ z = toQ (p i k) - toQ (appJ kdF n p h i) * toQ (appJ kdF n p h k) / toQ (spreadJ kdF n p h r)
theorem up_q0 {n : Nat} {one p : Nat → Nat → Fr} {h : Nat → Fr} {r : Fr} {i k : Nat} (hi : i < n) (hk : k < n) (hone : ∀ i j, toQ (one i j) = if i = j then 1 else 0) (hp : ∀ a b, a < n → b < n → toQ (p a b) = toQ (p b a))
    (hf : fineR (addR (aroundJ kdF n (restJ kdF one (gainJ kdF n p h r) h) p i k) (outerJ kdF (fun i => mulR (gainJ kdF n p h r i) r) (gainJ kdF n p h r) i k)) = true) :
    UpQ n p h r i k (addR (aroundJ kdF n (restJ kdF one (gainJ kdF n p h r) h) p i k) (outerJ kdF (fun i => mulR (gainJ kdF n p h r i) r) (gainJ kdF n p h r) i k)) := by
  obtain ⟨f1, f2, e0⟩ := add_q hf
  obtain ⟨m1, m2, fp, e1⟩ := around_q f1
  obtain ⟨kr, fk, e2⟩ := outer_q f2
  obtain ⟨fi, fr, e3⟩ := mul_q kr
  obtain ⟨fui, fa, ne, ei⟩ := div_q (show fineR (divR (appJ kdF n p h i) (spreadJ kdF n p h r)) = true from fi)
  obtain ⟨fuk, _, _, ek⟩ := div_q (show fineR (divR (appJ kdF n p h k) (spreadJ kdF n p h r)) = true from fk)
  obtain ⟨fd, _, ea⟩ := add_q (show fineR (addR (dotF (linJ n h) (linJ n (appJ kdF n p h))) r) = true from fa)
  obtain ⟨fc, ed⟩ := dot_lin fd
  have hu : ∀ c, c < n → fineR (appJ kdF n p h c) = true ∧ toQ (appJ kdF n p h c) = sumH n fun j => toQ (p c j) * toQ (h j) := fun c hc => ⟨(fc c hc).2, (dot_lin (x := p c) (y := h) (fc c hc).2).2⟩
  have ha : toQ (spreadJ kdF n p h r) = (sumH n fun j => toQ (h j) * toQ (appJ kdF n p h j)) + toQ r := by rw [← ed]; exact ea
  have rq : ∀ a c, c < n → fineR (restJ kdF one (gainJ kdF n p h r) h a c) = true → toQ (restJ kdF one (gainJ kdF n p h r) h a c) = (if a = c then 1 else 0) - toQ (gainJ kdF n p h r a) * toQ (h c) := fun a c hc hr => by
    obtain ⟨_, o1, o2⟩ := sub_q (show fineR (subR (one a c) (outerJ kdF (gainJ kdF n p h r) h a c)) = true from hr)
    rw [hone, (outer_q o1).2.2] at o2
    exact o2
  refine ⟨fp, fun c hc => (fc c hc).1, ne, hu, ha, ?_⟩
  have S := around_sum (P := fun a b => toQ (p a b)) (H := fun c => toQ (h c)) (U := fun c => toQ (appJ kdF n p h c)) (A := toQ (spreadJ kdF n p h r)) (R := toQ r) hi hk hp (fun c hc => (hu c hc).2) ha ne (toQ (gainJ kdF n p h r i)) (toQ (gainJ kdF n p h r k)) ei ek
  rw [e0, e1, e2, e3, ← S]
  congr 1
  exact sumH_congr _ fun j hj => by
    rw [rq k j hj (m2 j hj)]
    congr 1
    exact sumH_congr _ fun l hl => by rw [rq i l hl (m1 l hl)]
theorem up_q {n : Nat} {one p : Nat → Nat → Fr} {h : Nat → Fr} {r : Fr} {i k : Nat} (hi : i < n) (hk : k < n) (hone : ∀ i j, toQ (one i j) = if i = j then 1 else 0) (hp : ∀ a b, a < n → b < n → toQ (p a b) = toQ (p b a))
    (hf : fineR (upPJ kdF one n p h r i k) = true) : UpQ n p h r i k (upPJ kdF one n p h r i k) := by
  have hm : max i k < n := by omega
  have hM : min i k < n := by omega
  have U := up_q0 hm hM hone hp hf
  refine ⟨U.fp, U.fh, U.ne, U.fu, U.ea, U.ez.trans ?_⟩
  by_cases hik : k ≤ i
  · rw [Nat.max_eq_left hik, Nat.min_eq_right hik]
  · rw [Nat.max_eq_right (by omega), Nat.min_eq_left (by omega), hp k i hk hi, Rat.mul_comm (toQ (appJ kdF n p h k))]
theorem up_sym {n : Nat} {one p : Nat → Nat → Fr} {h : Nat → Fr} {r : Fr} (i k : Nat) : upPJ kdF one n p h r i k = upPJ kdF one n p h r k i := by
  unfold upPJ mirrJ mirM
  rw [Nat.max_comm, Nat.min_comm]
theorem two_alg {P Ui Uk Vi Vk α β γ : Rat} (ha : α ≠ 0) (hb : β ≠ 0) (h1 : β - γ * (γ / α) ≠ 0) (h2 : α - γ * (γ / β) ≠ 0) :
    P - Ui * Uk / α - (Vi - Ui * (γ / α)) * (Vk - Uk * (γ / α)) / (β - γ * (γ / α)) = P - Vi * Vk / β - (Ui - Vi * (γ / β)) * (Uk - Vk * (γ / β)) / (α - γ * (γ / β)) := by
  have e1 : β - γ * (γ / α) = (α * β - γ * γ) / α := by grind
  have e2 : α - γ * (γ / β) = (α * β - γ * γ) / β := by grind
  have hd : α * β - γ * γ ≠ 0 := fun e => h1 (by rw [e1, e]; grind)
  rw [e1, e2]
  grind
/-- What P is behind two updates, as rational numbers. -/
theorem two_q0 {n : Nat} {one p : Nat → Nat → Fr} {g h : Nat → Fr} {r : Fr} {i k : Nat} (hi : i < n) (hk : k < n) (hone : ∀ i j, toQ (one i j) = if i = j then 1 else 0) (hp : ∀ a b, a < n → b < n → toQ (p a b) = toQ (p b a))
    (hf : fineR (upPJ kdF one n (upPJ kdF one n p g r) h r i k) = true) {U V : Nat → Rat} (hU : ∀ c, U c = sumH n fun j => toQ (p c j) * toQ (g j)) (hV : ∀ c, V c = sumH n fun j => toQ (p c j) * toQ (h j)) {α β γ : Rat} (hα : α = (sumH n fun j => toQ (g j) * U j) + toQ r)
    (hβ : β = (sumH n fun j => toQ (h j) * V j) + toQ r) (hγ : γ = sumH n fun j => U j * toQ (h j)) :
    α ≠ 0 ∧ β - γ * (γ / α) ≠ 0 ∧ toQ (upPJ kdF one n (upPJ kdF one n p g r) h r i k) = toQ (p i k) - U i * U k / α - (V i - U i * (γ / α)) * (V k - U k * (γ / α)) / (β - γ * (γ / α)) := by
  have B := up_q hi hk hone (fun a b _ _ => by rw [up_sym]) hf
  have A : ∀ a b, a < n → b < n → UpQ n p g r a b (upPJ kdF one n p g r a b) := fun a b ha hb => up_q ha hb hone hp (B.fp a b ha hb)
  have A0 := A i k hi hk
  have eU : ∀ c, c < n → toQ (appJ kdF n p g c) = U c := fun c hc => (A0.fu c hc).2.trans (hU c).symm
  have eα : toQ (spreadJ kdF n p g r) = α := by rw [A0.ea, hα]; congr 1; exact sumH_congr _ fun j hj => by rw [eU j hj]
  have eP : ∀ a b, a < n → b < n → toQ (upPJ kdF one n p g r a b) = toQ (p a b) - U a * U b / α := fun a b ha hb => by rw [(A a b ha hb).ez, eU a ha, eU b hb, eα]
  have hα0 : α ≠ 0 := by rw [← eα]; exact A0.ne
  have eV : ∀ c, c < n → toQ (appJ kdF n (upPJ kdF one n p g r) h c) = V c - U c * (γ / α) := fun c hc => by
    rw [(B.fu c hc).2]
    have e := sumH_lin (fun j => toQ (p c j) * toQ (h j)) (fun j => U j * toQ (h j)) (U c / α) n
    rw [← hV c, ← hγ] at e
    have e2 : V c - U c * (γ / α) = V c - γ * (U c / α) := by grind
    rw [e2, ← e]
    exact sumH_congr _ fun j hj => by rw [eP c j hc hj]; grind
  have eβ : toQ (spreadJ kdF n (upPJ kdF one n p g r) h r) = β - γ * (γ / α) := by
    rw [B.ea]
    have e := sumH_lin (fun j => toQ (h j) * V j) (fun j => U j * toQ (h j)) (γ / α) n
    rw [← hγ] at e
    have e2 : β - γ * (γ / α) = (sumH n fun j => toQ (h j) * V j) - γ * (γ / α) + toQ r := by rw [hβ]; grind
    rw [e2, ← e]
    congr 1
    exact sumH_congr _ fun j hj => by rw [eV j hj]; grind
  have hb := B.ne
  rw [eβ] at hb
  exact ⟨hα0, hb, by rw [B.ez, eP i k hi hk, eV i hi, eV k hk, eβ]⟩
/-- Two updates: whichever comes first. -/
theorem two_q {n : Nat} {one p : Nat → Nat → Fr} {g h : Nat → Fr} {r : Fr} {i k : Nat} (hi : i < n) (hk : k < n) (hone : ∀ i j, toQ (one i j) = if i = j then 1 else 0) (hp : ∀ a b, a < n → b < n → toQ (p a b) = toQ (p b a))
    (hf : fineR (upPJ kdF one n (upPJ kdF one n p g r) h r i k) = true) (hf2 : fineR (upPJ kdF one n (upPJ kdF one n p h r) g r i k) = true) :
    upPJ kdF one n (upPJ kdF one n p g r) h r i k = upPJ kdF one n (upPJ kdF one n p h r) g r i k := by
  have hγ : (sumH n fun j => (sumH n fun l => toQ (p j l) * toQ (h l)) * toQ (g j)) = sumH n fun j => (sumH n fun l => toQ (p j l) * toQ (g l)) * toQ (h j) := by
    have e : ∀ (x y : Nat → Rat), (sumH n fun j => (sumH n fun l => toQ (p j l) * x l) * y j) = sumH n fun j => sumH n fun l => toQ (p j l) * x l * y j := fun x y => sumH_congr _ fun j _ => by rw [← sumH_mulr]
    rw [e, e, sumH_swap]
    exact sumH_congr _ fun l hl => sumH_congr _ fun j hj => by rw [hp j l hj hl]; grind
  obtain ⟨a1, a2, a3⟩ := two_q0 hi hk hone hp hf (fun _ => rfl) (fun _ => rfl) rfl rfl rfl
  obtain ⟨b1, b2, b3⟩ := two_q0 hi hk hone hp hf2 (fun _ => rfl) (fun _ => rfl) rfl rfl rfl
  rw [hγ] at b2 b3
  exact fr_eq hf hf2 (by rw [a3, b3]; exact two_alg a1 b1 a2 b2)
end Go.Proofs.YtljmggemdkfbiaaGreat
