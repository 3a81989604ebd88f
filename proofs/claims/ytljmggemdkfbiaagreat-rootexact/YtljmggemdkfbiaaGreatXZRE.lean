/- An update, in fractions, where all roots are, has as square of its triangle what layer 9 tells, and the same X, and news. Conditions: none (every input). -/
import Derived.Test.YtljmggemdkfbiaaGreatXB
import Derived.Test.YtljmggemdkfbiaaGreatXE
import Derived.Test.YtljmggemdkfbiaaGreatXI
import Derived.Test.YtljmggemdkfbiaaGreatXC
import Derived.Laws.EntriesVeiled
import Derived.Test.YtljmggemdkfbiaaGreatXD
import Derived.Test.YtljmggemdkfbiaaGreatXF
import Derived.Test.YtljmggemdkfbiaaGreatXK
import Derived.ProofKit
import Derived.OpenShut
import Derived.Lib.SmallJoins
import Derived.Carry
namespace Go.Proofs.YtljmggemdkfbiaaGreat
open Go.RowKit
set_option linter.unusedSimpArgs false
set_option linter.unusedVariables false
theorem opXZRE {α : Type} {l : List α} {k : Nat} {o : α} (h : l.toArray[k]? = some o) : l[k]? = some o := by rwa [List.getElem?_toArray] at h
theorem dot_lin {n : Nat} {x y : Nat → Fr} (h : fineR (dotF (linJ n x) (linJ n y)) = true) : (∀ c, c < n → fineR (x c) = true ∧ fineR (y c) = true) ∧ toQ (dotF (linJ n x) (linJ n y)) = sumH n fun c => toQ (x c) * toQ (y c) := by
 have e : ∀ f : Nat → Fr, linJ n f = tailH n 0 f := fun f => by simp [tailH, linJ]
 rw [e, e] at h ⊢
 obtain ⟨h1, h2⟩ := dot_tail h
 refine ⟨fun c hc => h1 c (Nat.zero_le _) hc, h2.trans ?_⟩
 unfold dT
 rw [Nat.sub_zero]
 exact sumH_congr _ fun j _ => by rw [Nat.zero_add]
theorem mulK_q {M : Nat} {f g : Nat → Nat → Fr} {i k : Nat} (h : fineR (mulK kdF M f g i k) = true) : (∀ c, c < M → fineR (f i c) = true ∧ fineR (g c k) = true) ∧ toQ (mulK kdF M f g i k) = sumH M fun c => toQ (f i c) * toQ (g c k) :=
 dot_lin (x := f i) (y := fun c => g c k) h
theorem outer_q {c r : Nat → Fr} {i k : Nat} (h : fineR (outerJ kdF c r i k) = true) : fineR (c i) = true ∧ fineR (r k) = true ∧ toQ (outerJ kdF c r i k) = toQ (c i) * toQ (r k) := by
 obtain ⟨h1, h2⟩ := mulK_q h
 refine ⟨(h1 0 (by decide)).1, (h1 0 (by decide)).2, h2.trans ?_⟩
 show (0 : Rat) + toQ (c i) * toQ (r k) = _
 rw [Rat.zero_add]
theorem sumH_delta (f : Nat → Rat) (i : Nat) : ∀ n, sumH n (fun l => (if i = l then (1 : Rat) else 0) * f l) = if i < n then f i else 0
 | 0 => by rw [if_neg (by omega)]; rfl
 | n + 1 => by
  show sumH n (fun l => (if i = l then (1 : Rat) else 0) * f l) + (if i = n then (1 : Rat) else 0) * f n = _
  rw [sumH_delta f i n]
  by_cases h : i = n
  ·subst h
   rw [if_neg (by omega), if_pos rfl, if_pos (by omega), Rat.zero_add, Rat.one_mul]
  ·rw [if_neg h, Rat.zero_mul, Rat.add_zero]
   by_cases h2 : i < n
   ·rw [if_pos h2, if_pos (by omega)]
   ·rw [if_neg h2, if_neg (by omega)]
theorem around_sum {n : Nat} {P : Nat → Nat → Rat} {H U : Nat → Rat} {A R : Rat} {i k : Nat} (hi : i < n) (hk : k < n) (hP : ∀ a b, a < n → b < n → P a b = P b a) (hU : ∀ c, c < n → U c = sumH n fun j => P c j * H j)
  (hA : A = (sumH n fun j => H j * U j) + R) (h0 : A ≠ 0) (Ki Kk : Rat) (hKi : Ki = U i / A) (hKk : Kk = U k / A) :
  (sumH n fun j => (sumH n fun l => ((if i = l then (1 : Rat) else 0) - Ki * H l) * P l j) * ((if k = j then (1 : Rat) else 0) - Kk * H j)) + Ki * R * Kk = P i k - U i * U k / A := by
 have inner : ∀ j, j < n → (sumH n fun l => ((if i = l then (1 : Rat) else 0) - Ki * H l) * P l j) = P i j - U j * Ki := fun j hj => by
  have e := sumH_lin (fun l => (if i = l then (1 : Rat) else 0) * P l j) (fun l => P j l * H l) Ki n
  rw [sumH_delta (fun l => P l j) i n, if_pos hi, ← hU j hj] at e
  rw [← e]
  exact sumH_congr _ fun l hl => by rw [hP j l hj hl]; grind
 have outer : (sumH n fun j => (sumH n fun l => ((if i = l then (1 : Rat) else 0) - Ki * H l) * P l j) * ((if k = j then (1 : Rat) else 0) - Kk * H j)) = (P i k - U k * Ki) - (U i - (A - R) * Ki) * Kk := by
  have e1 : (sumH n fun j => (P i j - U j * Ki) * H j) = U i - (A - R) * Ki := by
   have e := sumH_lin (fun j => P i j * H j) (fun j => H j * U j) Ki n
   rw [← hU i hi] at e
   have e2 : (sumH n fun j => H j * U j) = A - R := by rw [hA]; grind
   rw [e2] at e
   rw [← e]
   exact sumH_congr _ fun j _ => by grind
  have e := sumH_lin (fun j => (if k = j then (1 : Rat) else 0) * (P i j - U j * Ki)) (fun j => (P i j - U j * Ki) * H j) Kk n
  rw [sumH_delta (fun j => P i j - U j * Ki) k n, if_pos hk, e1] at e
  rw [← e]
  exact sumH_congr _ fun j hj => by rw [inner j hj]; grind
 rw [outer, hKi, hKk]
 grind
theorem around_q {n : Nat} {m p : Nat → Nat → Fr} {i k : Nat} (h : fineR (aroundJ kdF n m p i k) = true) :
  (∀ c, c < n → fineR (m i c) = true) ∧ (∀ c, c < n → fineR (m k c) = true) ∧ (∀ a b, a < n → b < n → fineR (p a b) = true) ∧
  toQ (aroundJ kdF n m p i k) = sumH n fun j => (sumH n fun l => toQ (m i l) * toQ (p l j)) * toQ (m k j) := by
 obtain ⟨h1, h2⟩ := mulK_q h
 have hm : ∀ c, c < n → fineR (m i c) = true := fun c hc => ((mulK_q (h1 c hc).1).1 c hc).1
 refine ⟨hm, fun c hc => (h1 c hc).2, fun a b ha hb => ((mulK_q (h1 b hb).1).1 a ha).2, h2.trans ?_⟩
 exact sumH_congr _ fun j hj => by rw [(mulK_q (h1 j hj).1).2]
structure UpQ (n : Nat) (p : Nat → Nat → Fr) (h : Nat → Fr) (r : Fr) (i k : Nat) (z : Fr) : Prop where
 fp : ∀ a b, a < n → b < n → fineR (p a b) = true
 fh : ∀ c, c < n → fineR (h c) = true
 ne : toQ (spreadJ kdF n p h r) ≠ 0
 fu : ∀ c, c < n → fineR (appJ kdF n p h c) = true ∧ toQ (appJ kdF n p h c) = sumH n fun j => toQ (p c j) * toQ (h j)
 ea : toQ (spreadJ kdF n p h r) = (sumH n fun j => toQ (h j) * toQ (appJ kdF n p h j)) + toQ r
 ez : toQ z = toQ (p i k) - toQ (appJ kdF n p h i) * toQ (appJ kdF n p h k) / toQ (spreadJ kdF n p h r)
theorem up_q0 {n : Nat} {one p : Nat → Nat → Fr} {h : Nat → Fr} {r : Fr} {i k : Nat} (hi : i < n) (hk : k < n) (hone : ∀ i j, toQ (one i j) = if i = j then 1 else 0) (hp : ∀ a b, a < n → b < n → toQ (p a b) = toQ (p b a))
  (hf : fineR (addR (aroundJ kdF n (restJ kdF one (gainJ kdF n p h r) h) p i k) (outerJ kdF (fun i => mulR (gainJ kdF n p h r i) r) (gainJ kdF n p h r) i k)) = true) :
  UpQ n p h r i k (addR (aroundJ kdF n (restJ kdF one (gainJ kdF n p h r) h) p i k) (outerJ kdF (fun i => mulR (gainJ kdF n p h r i) r) (gainJ kdF n p h r) i k)) := by
 obtain ⟨f1, f2, e0⟩ := add_q hf
 obtain ⟨m1, m2, fp, e1⟩ := around_q f1
 obtain ⟨kr, fk, e2⟩ := outer_q f2
 obtain ⟨fi, fr, e3⟩ := mul_q kr
 obtain ⟨fui, fa, ne, ei⟩ := div_q (show fineR (divR (appJ kdF n p h i) (spreadJ kdF n p h r)) = true from fi)
 obtain ⟨fuk, _, _, ek⟩ := div_q (show fineR (divR (appJ kdF n p h k) (spreadJ kdF n p h r)) = true from fk)
 obtain ⟨fd, _, ea⟩ := add_q (show fineR (addR (dotF (linJ n h) (linJ n (appJ kdF n p h))) r) = true from fa)
 obtain ⟨fc, ed⟩ := dot_lin fd
 have hu : ∀ c, c < n → fineR (appJ kdF n p h c) = true ∧ toQ (appJ kdF n p h c) = sumH n fun j => toQ (p c j) * toQ (h j) := fun c hc => ⟨(fc c hc).2, (dot_lin (x := p c) (y := h) (fc c hc).2).2⟩
 have ha : toQ (spreadJ kdF n p h r) = (sumH n fun j => toQ (h j) * toQ (appJ kdF n p h j)) + toQ r := by rw [← ed]; exact ea
 have rq : ∀ a c, c < n → fineR (restJ kdF one (gainJ kdF n p h r) h a c) = true → toQ (restJ kdF one (gainJ kdF n p h r) h a c) = (if a = c then 1 else 0) - toQ (gainJ kdF n p h r a) * toQ (h c) := fun a c hc hr => by
  obtain ⟨_, o1, o2⟩ := sub_q (show fineR (subR (one a c) (outerJ kdF (gainJ kdF n p h r) h a c)) = true from hr)
  rw [hone, (outer_q o1).2.2] at o2
  exact o2
 refine ⟨fp, fun c hc => (fc c hc).1, ne, hu, ha, ?_⟩
 have S := around_sum (P := fun a b => toQ (p a b)) (H := fun c => toQ (h c)) (U := fun c => toQ (appJ kdF n p h c)) (A := toQ (spreadJ kdF n p h r)) (R := toQ r) hi hk hp (fun c hc => (hu c hc).2) ha ne (toQ (gainJ kdF n p h r i)) (toQ (gainJ kdF n p h r k)) ei ek
 rw [e0, e1, e2, e3, ← S]
 congr 1
 exact sumH_congr _ fun j hj => by
  rw [rq k j hj (m2 j hj)]
  congr 1
  exact sumH_congr _ fun l hl => by rw [rq i l hl (m1 l hl)]
theorem up_q {n : Nat} {one p : Nat → Nat → Fr} {h : Nat → Fr} {r : Fr} {i k : Nat} (hi : i < n) (hk : k < n) (hone : ∀ i j, toQ (one i j) = if i = j then 1 else 0) (hp : ∀ a b, a < n → b < n → toQ (p a b) = toQ (p b a))
  (hf : fineR (upPJ kdF one n p h r i k) = true) : UpQ n p h r i k (upPJ kdF one n p h r i k) := by
 have hm : max i k < n := by omega
 have hM : min i k < n := by omega
 have U := up_q0 hm hM hone hp hf
 refine ⟨U.fp, U.fh, U.ne, U.fu, U.ea, U.ez.trans ?_⟩
 by_cases hik : k ≤ i
 ·rw [Nat.max_eq_left hik, Nat.min_eq_right hik]
 ·rw [Nat.max_eq_right (by omega), Nat.min_eq_left (by omega), hp k i hk hi, Rat.mul_comm (toQ (appJ kdF n p h k))]
theorem ofQ_bad9 (q : Rat) : fineR (ofQ q) = !(ofQ q).bad := by
 cases h : okR q
 ·rw [ofQ_no h]; rfl
 ·rw [ofQ_fine, h, ofQ_ok h]; rfl
theorem add_bad9 (a b : Fr) : fineR (addR a b) = !(addR a b).bad := by
 unfold addR
 split
 ·exact ofQ_bad9 _
 ·rfl
theorem one9 (i j : Nat) : toQ (wholeF (unitI i j)) = if i = j then 1 else 0 := by
 unfold unitI
 by_cases e : i = j
 ·rw [if_pos e, if_pos e, whole_it ⟨by decide, by decide⟩]
  exact toQ_whole 1
 ·rw [if_neg e, if_neg e, whole_it ⟨by decide, by decide⟩]
  exact toQ_whole 0
theorem sq_sym9 {n : Nat} (g : Nat → Nat → Fr) (a b : Nat) : squareJ kdF n g a b = squareJ kdF n g b a := by
 unfold squareJ mirM
 rw [Nat.max_comm, Nat.min_comm]
def clrI (f : Nat → Nat → Int) (i k : Nat) : Int := if k ≤ i then f i k else 0
def sqI (n : Nat) (f : Nat → Nat → Int) : Nat → Nat → Int := mulI n f (fun i k => f k i)
theorem ofL_mk7 {R C : Nat} (f : Nat → Nat → Int) {i k : Nat} (hi : i < R) (hk : k < C) : ofL C (mk R C f) i k = f i k := by
 have h := ofL_get (R := R) (M := C) (ns := mk R C f) (by rw [mk_len]) hi hk
 rw [mk_get f hi hk] at h
 exact (Option.some.inj h).symm
set_option maxHeartbeats 2000000 in
theorem ref7Clear_any (pa : Option Addr) (na ca : Nat) (xa : List Int) (n : Nat) (w : World) (hd : Dim n n) (ha : Rq 1 cI w (.slice pa na ca) xa) (la : xa.length = n * n) (lna : na = n * n) :
  Calls Tryz.prog 11 #[.slice pa na ca, .int .i64 n] w fun e w' => ∃ p cap, e = .returned (.slice p (n * n) cap) ∧ Rw 1 cellsI w' (.slice p (n * n) cap) (mk n n (clrI (ofL n xa))) ∧ Bl w w' := by
 obtain ⟨i0, hi, hz0, hz1, hz2⟩ := info_parts Tryz.info_I
 have fm : Tryz.prog.follows .mixedOrders = true := by kernel_rfl
 have CA : ∀ i j, i < n → j < n → ∃ b o, pa = some ⟨b, o, none⟩ ∧ ∀ u, Bl w u → u.cell? ⟨b, o + (i * n + j), none⟩ = some (.int .i64 (ofL n xa i j)) := by
  intro i j hi' hj
  have hg := ofL_get la hi' hj
  rcases ha with ⟨_, _, _, h0, _⟩ | ⟨b, o, cc, e, _, hlt, HX⟩
  ·rw [h0] at hg; simp at hg
  ·cases e
   exact ⟨b, o, rfl, fun u hu => (bl_cell hu _ _ hlt).trans (cellI HX hg (wr := w))⟩
 have HCA := hideP CA
 have hR16 := hd.r2
 have HLA := hideP lna
 clear CA ha la lna
 generalize ofL n xa = fa at *
 go_enter Tryz.func11, Tryz.ntmps11
 go_wp2_with fail
 go_loopw [5, 6] (fun v i wr => ∃ j : Nat, i = .int .i64 j ∧ j ≤ n ∧ wr.ownsRow w.heap.size 3 1 v (mk j n (clrI fa)).length ((mk j n (clrI fa)).flatMap cellsI) ∧ Bl w wr) (fun _ i _ => n - (intOf i).toNat)
 case atStart => exact ⟨0, rfl, Nat.zero_le _, World.ownsRow_nil _ _ _ _, Bl.refl _⟩
 case round =>
  obtain ⟨j, rfl, hj, hown, hB⟩ := hrel
  by_cases hlt : j < n
  ·go_wp2_with fail
   go_loopw [5, 7] (fun v i wr => ∃ k : Nat, i = .int .i64 k ∧ k ≤ n ∧ wr.ownsRow w.heap.size 3 1 v (mk j n (clrI fa) ++ rowM k (clrI fa) j).length ((mk j n (clrI fa) ++ rowM k (clrI fa) j).flatMap cellsI) ∧ Bl w wr) (fun _ i _ => n - (intOf i).toNat)
   case atStart => exact ⟨0, rfl, Nat.zero_le _, by simpa [rowM] using hown, hB⟩
   case round =>
    clear hown hB
    obtain ⟨k, rfl, hk, hown, hB⟩ := hrel
    by_cases hlt2 : k < n
    ·have hlen : (mk j n (clrI fa) ++ rowM k (clrI fa) j).length ≤ 256 := by
      have h1 : j * n + k < n * n := mk_idx hlt hlt2
      have h2 : n * n ≤ 256 := Nat.mul_le_mul hR16 hR16
      rw [List.length_append, mk_len, rowM_len]
      omega
     have HT := hideP (show mk j n (clrI fa) ++ rowM (k + 1) (clrI fa) j = (mk j n (clrI fa) ++ rowM k (clrI fa) j) ++ [(clrI fa) j k] by rw [rowM_succ, List.append_assoc])
     by_cases hki : k ≤ j
     ·have hki' : ¬ ((k : Int) > j) := by omega
      obtain ⟨x, hx⟩ : ∃ x, x = fa j k := ⟨_, rfl⟩
      have HT2 := hideP (show (mk j n (clrI fa) ++ rowM k (clrI fa) j) ++ [(clrI fa) j k] = (mk j n (clrI fa) ++ rowM k (clrI fa) j) ++ [x] by rw [hx, show clrI fa j k = fa j k from if_pos hki])
      have HT3 := hideP (HT.out.trans HT2.out)
      obtain ⟨b, o, rfl, CX⟩ := HCA.out j k hlt hlt2
      obtain ⟨a1, q1, e1, e2, hq1, hq3, hq5, hq6⟩ := place hd hlt hlt2
      rw [← e2] at CX
      rw [← HLA.out] at hq5
      have cx := CX wr hB
      rw [← hx] at cx
      clear CX e1 e2
      clear HT HT2
      have HX := hideP hx
      clear hx
      generalize mk j n (clrI fa) ++ rowM k (clrI fa) j = ys at *
      go_wp2_with (at_builtin; refine wpList_append_own _ rfl _ _ 22 rfl w.heap.size 3 i0 (.int .i64 0) 1 8 Tryz.underlying22 hi hz0 hz1 hz2 rfl (by decide) _ _ _ rfl (hown.alloc _) ⟨_, 0, none⟩ 1 1 (cellsI x) rfl rfl (newI_cells _ _ _) (oneI_cells _) (by unfold maxLen; omega) (by omega) (by have := hB.size; simp; omega) ?_; intro v' w1 hown' hgrow _)
      have R1 := own_more (ys := [x]) (hB.alloc _) (Nat.le_refl _) (hown.alloc _) (by simpa using hown') rfl hgrow
      clear hown hown' hgrow
      go_wp2
      go_roundw
      case rel => exact ⟨k + 1, by simp, hlt2, by rw [HT3.out]; exact R1.2, R1.1⟩
      case measure => simp [intOf]; omega
     ·have hki' : (k : Int) > j := by omega
      obtain ⟨x, hx⟩ : ∃ x, x = (0 : Int) := ⟨_, rfl⟩
      have HT2 := hideP (show (mk j n (clrI fa) ++ rowM k (clrI fa) j) ++ [(clrI fa) j k] = (mk j n (clrI fa) ++ rowM k (clrI fa) j) ++ [x] by rw [hx, show clrI fa j k = 0 from if_neg hki])
      have HT3 := hideP (HT.out.trans HT2.out)
      clear HT HT2
      subst hx
      generalize mk j n (clrI fa) ++ rowM k (clrI fa) j = ys at *
      go_wp2_with (at_builtin; refine wpList_append_own _ rfl _ _ 22 rfl w.heap.size 3 i0 (.int .i64 0) 1 8 Tryz.underlying22 hi hz0 hz1 hz2 rfl (by decide) _ _ _ rfl (hown.alloc _) ⟨_, 0, none⟩ 1 1 (cellsI (0 : Int)) rfl rfl (newI_cells _ _ _) (oneI_cells _) (by unfold maxLen; omega) (by omega) (by have := hB.size; simp; omega) ?_; intro v' w1 hown' hgrow _)
      have R1 := own_more (ys := [(0 : Int)]) (hB.alloc _) (Nat.le_refl _) (hown.alloc _) (by simpa using hown') rfl hgrow
      clear hown hown' hgrow
      go_wp2
      go_roundw
      case rel => exact ⟨k + 1, by simp, hlt2, by rw [HT3.out]; exact R1.2, R1.1⟩
      case measure => simp [intOf]; omega
    ·obtain rfl : k = n := by omega
     have HT := hideP (mk_succ j k (clrI fa))
     go_wp2_with fail
     go_roundw
     case rel => exact ⟨j + 1, by simp, hlt, by rw [HT.out]; exact hown, hB⟩
     case measure => simp [intOf]; omega
  ·obtain rfl : j = n := by omega
   have RW := hideP (Rw.of_own cellsI_len hown)
   obtain ⟨p', cap', hv, _, _⟩ := RW.out.cut
   rw [mk_len] at hv
   clear hown
   subst hv
   go_wp2
   go_ret
   exact ⟨p', cap', rfl, RW.out, hB⟩
end Go.Proofs.YtljmggemdkfbiaaGreat
namespace Go.Proofs.YtljmggemdkfbiaaGreat
open Go.RowKit Go.Shelf
set_option linter.unusedSimpArgs false
set_option linter.unusedVariables false
attribute [local go_sem] Oper.semAt_some
end Go.Proofs.YtljmggemdkfbiaaGreat
namespace Go.Proofs.YtljmggemdkfbiaaGreat
open Go.RowKit
set_option linter.unusedSimpArgs false
set_option linter.unusedVariables false
end Go.Proofs.YtljmggemdkfbiaaGreat
namespace Go.Proofs.YtljmggemdkfbiaaGreat
open Go.RowKit Go.Shelf
set_option linter.unusedSimpArgs false
set_option linter.unusedVariables false
attribute [local go_sem] Oper.semAt_some
end Go.Proofs.YtljmggemdkfbiaaGreat
namespace Go.Proofs.YtljmggemdkfbiaaGreat
open Go.RowKit
set_option linter.unusedSimpArgs false
set_option linter.unusedVariables false
theorem sqI_symm (n : Nat) (f : Nat → Nat → Int) (i k : Nat) : sqI n f i k = sqI n f k i := dotI_comm _ _
theorem sqI_mir (n : Nat) (f : Nat → Nat → Int) (i k : Nat) : sqI n f (max i k) (min i k) = sqI n f i k := by
 by_cases h : k ≤ i
 ·rw [Nat.max_eq_left h, Nat.min_eq_right h]
 ·rw [Nat.max_eq_right (by omega), Nat.min_eq_left (by omega), sqI_symm]
def wI (n : Nat) (s : Nat → Nat → Int) (h : Nat → Int) (j : Nat) : Int := dotI (linJ n fun k => s k j) (linJ n h)
def eI (n : Nat) (s : Nat → Nat → Int) (h : Nat → Int) (i : Nat) : Nat → Int
 | 0 => 0
 | t + 1 => eI n s h i t + s i (n - 1 - t) * wI n s h (n - 1 - t)
def aI (n : Nat) (s : Nat → Nat → Int) (h : Nat → Int) (r : Int) : Nat → Int
 | 0 => r
 | t + 1 => aI n s h r t + wI n s h (n - 1 - t) * wI n s h (n - 1 - t)
structure TriX (n : Nat) (s : Nat → Nat → Int) (h : Nat → Int) (r : Int) : Prop where
 n1 : 1 ≤ n
 n3 : n ≤ 3
 sb : ∀ i k, i < n → k < n → -5 ≤ s i k ∧ s i k ≤ 5
 sz : ∀ i k, i < k → s i k = 0
 hb : ∀ k, k < n → -5 ≤ h k ∧ h k ≤ 5
 r1 : 1 ≤ r
 r5 : r ≤ 5
theorem sml_lin {n : Nat} {A : Int} {f : Nat → Int} (h : ∀ k, k < n → -A ≤ f k ∧ f k ≤ A) : Sml A (linJ n f) := by
 intro x hx
 obtain ⟨k, hk, rfl⟩ := List.mem_map.1 hx
 exact h k (List.mem_range.1 hk)
theorem dot_lin_it {n : Nat} {A B : Int} {f g : Nat → Int} (hf : ∀ k, k < n → -A ≤ f k ∧ f k ≤ A) (hg : ∀ k, k < n → -B ≤ g k ∧ g k ≤ B) (hA : 0 ≤ A ∧ A ≤ 1073741824) (hB : 0 ≤ B ∧ B ≤ 1073741824) (hl : n ≤ 16) (hAB : A * B ≤ 67108864) :
  dotF (linJ n fun k => itF (f k)) (linJ n fun k => itF (g k)) = itF (dotI (linJ n f) (linJ n g)) := by
 rw [← linJ_map n f itF, ← linJ_map n g itF]
 exact dot_it6 (sml_lin hf) (sml_lin hg) hA hB (by rw [linJ_len]; exact hl) hAB
theorem dotI_lin_bound {n : Nat} {A B : Int} {f g : Nat → Int} (hf : ∀ k, k < n → -A ≤ f k ∧ f k ≤ A) (hg : ∀ k, k < n → -B ≤ g k ∧ g k ≤ B) (hA : 0 ≤ A) (hB : 0 ≤ B) (hl : n ≤ 3) : -(A * B * 20) ≤ dotI (linJ n f) (linJ n g) ∧ dotI (linJ n f) (linJ n g) ≤ A * B * 20 :=
 dotI_bound (sml_lin hf) (sml_lin hg) hA hB (by rw [linJ_len]; omega)
theorem TriX.w {n : Nat} {s : Nat → Nat → Int} {h : Nat → Int} {r : Int} (T : TriX n s h r) {j : Nat} (hj : j < n) : -500 ≤ wI n s h j ∧ wI n s h j ≤ 500 := by
 have := dotI_lin_bound (n := n) (A := 5) (B := 5) (f := fun k => s k j) (g := h) (fun k hk => T.sb k j hk hj) T.hb (by omega) (by omega) T.n3
 unfold wI
 omega
theorem TriX.ww {n : Nat} {s : Nat → Nat → Int} {h : Nat → Int} {r : Int} (T : TriX n s h r) {j : Nat} (hj : j < n) : 0 ≤ wI n s h j * wI n s h j ∧ wI n s h j * wI n s h j ≤ 250000 := by
 have hw := T.w hj
 have m := mul_bound hw hw
 refine ⟨?_, by omega⟩
 rcases Int.le_total 0 (wI n s h j) with h | h
 ·exact Int.mul_nonneg h h
 ·exact Int.mul_nonneg_of_nonpos_of_nonpos h h
theorem TriX.e {n : Nat} {s : Nat → Nat → Int} {h : Nat → Int} {r : Int} (T : TriX n s h r) {i : Nat} (hi : i < n) : ∀ t, t ≤ n → -(2500 * (t : Int)) ≤ eI n s h i t ∧ eI n s h i t ≤ 2500 * (t : Int)
 | 0, _ => ⟨by show -(2500 * 0) ≤ (0 : Int); omega, by show (0 : Int) ≤ 2500 * 0; omega⟩
 | t + 1, ht => by
  have h1 := T.e hi t (by omega)
  have h2 := mul_bound (T.sb i (n - 1 - t) hi (by omega)) (T.w (j := n - 1 - t) (by omega))
  show -(2500 * ((t + 1 : Nat) : Int)) ≤ eI n s h i t + s i (n - 1 - t) * wI n s h (n - 1 - t) ∧ eI n s h i t + s i (n - 1 - t) * wI n s h (n - 1 - t) ≤ 2500 * ((t + 1 : Nat) : Int)
  constructor <;> (push_cast; omega)
theorem TriX.a {n : Nat} {s : Nat → Nat → Int} {h : Nat → Int} {r : Int} (T : TriX n s h r) : ∀ t, t ≤ n → 1 ≤ aI n s h r t ∧ aI n s h r t ≤ 5 + 250000 * (t : Int)
 | 0, _ => ⟨T.r1, by show r ≤ 5 + 250000 * 0; have := T.r5; omega⟩
 | t + 1, ht => by
  have h1 := T.a t (by omega)
  have h2 := T.ww (j := n - 1 - t) (by omega)
  show 1 ≤ aI n s h r t + wI n s h (n - 1 - t) * wI n s h (n - 1 - t) ∧ aI n s h r t + wI n s h (n - 1 - t) * wI n s h (n - 1 - t) ≤ 5 + 250000 * ((t + 1 : Nat) : Int)
  constructor <;> (push_cast; omega)
def finX (n : Nat) (s : Nat → Nat → Int) (h : Nat → Int) (r : Int) (i j : Nat) : Fr := if j ≤ i then sO kdF (itF (aI n s h r (n - 1 - j))) (itF (wI n s h j)) (itF (s i j)) (itF (eI n s h i (n - 1 - j))) else itF (s i j)
theorem ex_w {n : Nat} {s : Nat → Nat → Int} {h : Nat → Int} {r : Int} (T : TriX n s h r) {S : Nat → Nat → Fr} {H : Nat → Fr} (hS : ∀ i k, i < n → k < n → S i k = itF (s i k)) (hH : ∀ k, k < n → H k = itF (h k)) {j : Nat} (hj : j < n) : wO kdF n S H j = itF (wI n s h j) := by
 show dotF (linJ n fun k => S k j) (linJ n H) = _
 rw [linJ_congr (fun k hk => hS k j hk hj), linJ_congr hH]
 exact dot_lin_it (A := 5) (B := 5) (fun k hk => T.sb k j hk hj) T.hb (by omega) (by omega) (by have := T.n3; omega) (by omega)
theorem ex_run {n : Nat} {s : Nat → Nat → Int} {h : Nat → Int} {r : Int} (T : TriX n s h r) {S : Nat → Nat → Fr} {H : Nat → Fr} (hS : ∀ i k, i < n → k < n → S i k = itF (s i k)) (hH : ∀ k, k < n → H k = itF (h k)) : ∀ t, t ≤ n →
  (∀ i k, i < n → k < n → (runO kdF n S H (itF r) t).s i k = if n - t ≤ k then finX n s h r i k else itF (s i k)) ∧ (∀ i, i < n → (runO kdF n S H (itF r) t).e i = itF (eI n s h i t)) ∧ (runO kdF n S H (itF r) t).a = itF (aI n s h r t) := by
 intro t
 have n3 := T.n3
 induction t with
 | zero =>
  intro _
  refine ⟨fun i k hi hk => ?_, fun i hi => ?_, rfl⟩
  ·rw [if_neg (by omega)]
   exact hS i k hi hk
  ·exact whole_it (n := 0) ⟨by omega, by omega⟩
 | succ t ih =>
  intro ht
  obtain ⟨i1, i2, i3⟩ := ih (by omega)
  obtain ⟨j, ej⟩ : ∃ j, j = n - 1 - t := ⟨_, rfl⟩
  have hj : j < n := by omega
  have hw := ex_w T hS hH hj
  have bw := T.w hj
  have bww := T.ww hj
  have ba := T.a t (by omega)
  have st : ∀ i, i < n → (runO kdF n S H (itF r) t).s i j = itF (s i j) := fun i hi => by rw [i1 i j hi hj, if_neg (by omega)]
  have R : runO kdF n S H (itF r) (t + 1) = stepO kdF n j (itF (wI n s h j)) (runO kdF n S H (itF r) t) := by rw [← hw, ej]; rfl
  have mww : mulR (itF (wI n s h j)) (itF (wI n s h j)) = itF (wI n s h j * wI n s h j) := mul_it (by unfold Wh; omega) (by unfold Wh; omega) (by unfold Wh; omega)
  refine ⟨fun i k hi hk => ?_, fun i hi => ?_, ?_⟩
  ·rw [R]
   show partS kdF j n (itF (wI n s h j)) (runO kdF n S H (itF r) t) i k = _
   unfold partS
   by_cases hc : k = j ∧ j ≤ i ∧ i < n
   ·obtain ⟨rfl, h2, h3⟩ := hc
    rw [if_pos ⟨rfl, h2, h3⟩, if_pos (by omega), st i hi, i2 i hi, i3]
    unfold finX
    rw [if_pos h2, show n - 1 - k = t by omega]
   ·rw [if_neg hc, i1 i k hi hk]
    by_cases hk2 : k = j
    ·subst hk2
     rw [if_neg (by omega), if_pos (by omega)]
     unfold finX
     rw [if_neg (by omega)]
    ·by_cases h4 : n - t ≤ k
     ·rw [if_pos h4, if_pos (by omega)]
     ·rw [if_neg h4, if_neg (by omega)]
  ·rw [R]
   show partE kdF j n (itF (wI n s h j)) (runO kdF n S H (itF r) t) i = itF (eI n s h i t + s i (n - 1 - t) * wI n s h (n - 1 - t))
   rw [← ej]
   unfold partE
   by_cases hc : j ≤ i ∧ i < n
   ·rw [if_pos hc, st i hi, i2 i hi]
    show addR (itF (eI n s h i t)) (mulR (itF (s i j)) (itF (wI n s h j))) = _
    have b1 := T.sb i j hi hj
    have b2 := mul_bound b1 bw
    have b3 := T.e hi t (by omega)
    rw [mul_it (by unfold Wh; omega) (by unfold Wh; omega) (by unfold Wh; omega)]
    exact add_it (by unfold Wh; omega) (by unfold Wh; omega) (by unfold Wh; omega)
   ·rw [if_neg hc, i2 i hi, T.sz i j (by omega), Int.zero_mul, Int.add_zero]
  ·rw [R]
   show addR (runO kdF n S H (itF r) t).a (mulR (itF (wI n s h j)) (itF (wI n s h j))) = itF (aI n s h r t + wI n s h (n - 1 - t) * wI n s h (n - 1 - t))
   rw [← ej, i3, mww]
   exact add_it (by unfold Wh; omega) (by unfold Wh; omega) (by unfold Wh; omega)
theorem toQ_nn {z : Fr} (h : fineR z = true) (hn : 0 ≤ z.n) : 0 ≤ toQ z := by
 unfold toQ
 have hd : 1 ≤ z.d := (fineR_iff.1 h).2.1
 rw [Rat.divInt_eq_div]
 have h1 : (0 : Rat) ≤ (z.n : Rat) := by exact_mod_cast hn
 have h2 : (0 : Rat) < (z.d : Rat) := by exact_mod_cast (show 0 < z.d by omega)
 rw [Rat.div_def]
 exact Rat.mul_nonneg h1 (Rat.le_of_lt (Rat.inv_pos.2 h2))
structure ColQ (a w x e : Fr) : Prop where
 z : toQ (sO kdF a w x e) = toQ x * toQ (dO kdF a w) - toQ e * toQ (cO kdF a w)
 d : toQ (dO kdF a w) * toQ (dO kdF a w) = toQ a / toQ (bO kdF a w)
 q : toQ (rootR (mulR a (bO kdF a w))) * toQ (rootR (mulR a (bO kdF a w))) = toQ a * toQ (bO kdF a w)
 d0 : 0 ≤ toQ (dO kdF a w)
 q0 : 0 ≤ toQ (rootR (mulR a (bO kdF a w)))
 c : toQ (cO kdF a w) = toQ w / toQ (rootR (mulR a (bO kdF a w)))
theorem sO_q {a w x e : Fr} (h : fineR (sO kdF a w x e) = true) : ColQ a w x e := by
 obtain ⟨f1, f2, e1⟩ := sub_q (show fineR (subR (mulR x (dO kdF a w)) (mulR e (cO kdF a w))) = true from h)
 obtain ⟨_, f3, e2⟩ := mul_q f1
 obtain ⟨_, f4, e3⟩ := mul_q f2
 obtain ⟨f5, e4, p4⟩ := root_q (show fineR (rootR (divR a (bO kdF a w))) = true from f3)
 obtain ⟨_, f6, ne, e5⟩ := div_q f5
 obtain ⟨_, f7, ne2, e6⟩ := div_q (show fineR (divR w (rootR (mulR a (bO kdF a w)))) = true from f4)
 obtain ⟨f8, e7, p7⟩ := root_q f7
 obtain ⟨_, _, e8⟩ := mul_q f8
 exact ⟨e1.trans (by rw [e2, e3]), e4.trans e5, e7.trans e8, toQ_nn f3 p4, toQ_nn f7 p7, e6⟩
theorem ex_alg {A B D Q C w x1 x2 e1 e2 : Rat} (hA : 0 < A) (hB : 0 < B) (hb : B = A + w * w) (hd : D * D = A / B) (hq : Q * Q = A * B) (D0 : 0 ≤ D) (Q0 : 0 ≤ Q) (hC : C = w / Q) :
  (x1 * D - e1 * C) * (x2 * D - e2 * C) = x1 * x2 - ((e1 + x1 * w) * (e2 + x2 * w) / B - e1 * e2 / A) := by
 have nA : A ≠ 0 := by grind
 have nB : B ≠ 0 := by grind
 have nQ : Q ≠ 0 := by
  intro h
  rw [h] at hq
  have : A * B ≠ 0 := by grind
  grind
 have hDQ : D * Q = A := by
  have h1 : (D * Q - A) * (D * Q + A) = 0 := by grind
  have h2 : 0 < D * Q + A := by
   have := Rat.mul_nonneg D0 Q0
   grind
  rcases Rat.mul_eq_zero.1 h1 with h | h <;> grind
 have hD : D = A / Q := by grind
 have e : (x1 * D - e1 * C) * (x2 * D - e2 * C) = (x1 * A - e1 * w) * (x2 * A - e2 * w) / (A * B) := by
  have nAB : A * B ≠ 0 := by grind
  have hI : Q⁻¹ * Q⁻¹ = (A * B)⁻¹ := by
   rw [← hq, Rat.inv_mul_rev]
  rw [hD, hC, Rat.div_def, Rat.div_def, Rat.div_def, ← hI]
  grind
 rw [e]
 subst hb
 grind
theorem itQ (x : Int) : toQ (itF x) = (x : Rat) := toQ_whole x
theorem ex_b {n : Nat} {s : Nat → Nat → Int} {h : Nat → Int} {r : Int} (T : TriX n s h r) {c : Nat} (hc : c < n) : bO kdF (itF (aI n s h r (n - 1 - c))) (itF (wI n s h c)) = itF (aI n s h r (n - c)) ∧ aI n s h r (n - c) = aI n s h r (n - 1 - c) + wI n s h c * wI n s h c := by
 have n3 := T.n3
 have e : aI n s h r (n - c) = aI n s h r (n - 1 - c) + wI n s h c * wI n s h c := by
  obtain ⟨t, ht⟩ : ∃ t, t = n - 1 - c := ⟨_, rfl⟩
  rw [show n - c = t + 1 by omega, ← ht]
  show aI n s h r t + wI n s h (n - 1 - t) * wI n s h (n - 1 - t) = _
  rw [show n - 1 - t = c by omega]
 have bw := T.w hc
 have bww := T.ww hc
 have ba := T.a (n - 1 - c) (by omega)
 refine ⟨?_, e⟩
 show addR (itF (aI n s h r (n - 1 - c))) (mulR (itF (wI n s h c)) (itF (wI n s h c))) = _
 rw [mul_it (by unfold Wh; omega) (by unfold Wh; omega) (by unfold Wh; omega), e]
 exact add_it (by unfold Wh; omega) (by unfold Wh; omega) (by unfold Wh; omega)
theorem ex_e {n : Nat} {s : Nat → Nat → Int} {h : Nat → Int} {i c : Nat} (hc : c < n) : eI n s h i (n - c) = eI n s h i (n - 1 - c) + s i c * wI n s h c := by
 obtain ⟨t, ht⟩ : ∃ t, t = n - 1 - c := ⟨_, rfl⟩
 rw [show n - c = t + 1 by omega, ← ht]
 show eI n s h i t + s i (n - 1 - t) * wI n s h (n - 1 - t) = _
 rw [show n - 1 - t = c by omega]
theorem ex_e0 {n : Nat} {s : Nat → Nat → Int} {h : Nat → Int} {i : Nat} (hz : ∀ i k, i < k → s i k = 0) : ∀ t, i < n - t → eI n s h i t = 0
 | 0, _ => rfl
 | t + 1, ht => by
  show eI n s h i t + s i (n - 1 - t) * wI n s h (n - 1 - t) = 0
  rw [ex_e0 hz t (by omega), hz i (n - 1 - t) (by omega), Int.zero_mul, Int.add_zero]
theorem ex_col {n : Nat} {s : Nat → Nat → Int} {h : Nat → Int} {r : Int} (T : TriX n s h r) {i k c : Nat} (hi : i < n) (hk : k < n) (hc : c < n) (fi : fineR (finX n s h r i c) = true) (fk : fineR (finX n s h r k c) = true) :
  toQ (finX n s h r i c) * toQ (finX n s h r k c) = (s i c : Rat) * (s k c : Rat) - ((eI n s h i (n - c) : Rat) * (eI n s h k (n - c) : Rat) / (aI n s h r (n - c) : Rat) - (eI n s h i (n - 1 - c) : Rat) * (eI n s h k (n - 1 - c) : Rat) / (aI n s h r (n - 1 - c) : Rat)) := by
 have up : ∀ i k, i < c → toQ (finX n s h r i c) * toQ (finX n s h r k c) = (s i c : Rat) * (s k c : Rat) - ((eI n s h i (n - c) : Rat) * (eI n s h k (n - c) : Rat) / (aI n s h r (n - c) : Rat) - (eI n s h i (n - 1 - c) : Rat) * (eI n s h k (n - 1 - c) : Rat) / (aI n s h r (n - 1 - c) : Rat)) := by
  intro i k hic
  have e1 : finX n s h r i c = itF 0 := by unfold finX; rw [if_neg (by omega), T.sz i c hic]
  rw [e1, T.sz i c hic, ex_e0 (i := i) T.sz (n - c) (by omega), ex_e0 (i := i) T.sz (n - 1 - c) (by omega), itQ]
  have z : ((0 : Int) : Rat) = 0 := rfl
  rw [z]
  simp only [Rat.zero_mul, Rat.div_def]
  grind
 by_cases h1 : i < c
 ·exact up i k h1
 ·by_cases h2 : k < c
  ·have := up k i h2
   rw [Rat.mul_comm (toQ (finX n s h r i c)), this, Rat.mul_comm (s i c : Rat), Rat.mul_comm (eI n s h i (n - c) : Rat), Rat.mul_comm (eI n s h i (n - 1 - c) : Rat)]
  ·have gi : finX n s h r i c = sO kdF (itF (aI n s h r (n - 1 - c))) (itF (wI n s h c)) (itF (s i c)) (itF (eI n s h i (n - 1 - c))) := by unfold finX; rw [if_pos (by omega)]
   have gk : finX n s h r k c = sO kdF (itF (aI n s h r (n - 1 - c))) (itF (wI n s h c)) (itF (s k c)) (itF (eI n s h k (n - 1 - c))) := by unfold finX; rw [if_pos (by omega)]
   rw [gi] at fi
   rw [gk] at fk
   have Q1 := sO_q fi
   have Q2 := sO_q fk
   obtain ⟨b1, b2⟩ := ex_b T hc
   have ba := T.a (n - 1 - c) (by omega)
   have bb := T.a (n - c) (by omega)
   have d := Q1.d
   have q := Q1.q
   have cc := Q1.c
   rw [b1, itQ, itQ] at d q
   rw [b1, itQ] at cc
   have q0 := Q1.q0
   rw [b1] at q0
   rw [gi, gk, Q1.z, Q2.z, itQ, itQ, itQ, itQ, ex_e (i := i) hc, ex_e (i := k) hc, Rat.intCast_add, Rat.intCast_mul, Rat.intCast_add, Rat.intCast_mul]
   exact ex_alg (by exact_mod_cast (show 0 < aI n s h r (n - 1 - c) by omega)) (by exact_mod_cast (show 0 < aI n s h r (n - c) by omega)) (by rw [b2, Rat.intCast_add, Rat.intCast_mul]) d q Q1.d0 q0 cc
theorem ex_tele (X G : Nat → Rat) (n : Nat) : ∀ m, m ≤ n → sumH m (fun c => X c - (G (n - c) - G (n - 1 - c))) = sumH m X - (G n - G (n - m))
 | 0, _ => by show (0 : Rat) = 0 - (G n - G (n - 0)); rw [Nat.sub_zero]; grind
 | m + 1, hm => by
  show sumH m (fun c => X c - (G (n - c) - G (n - 1 - c))) + (X m - (G (n - m) - G (n - 1 - m))) = sumH m X + X m - (G n - G (n - (m + 1)))
  rw [ex_tele X G n m (by omega), show n - (m + 1) = n - 1 - m by omega]
  grind
theorem ex_sq (s : Nat → Nat → Int) (i k : Nat) : ∀ m, sumH m (fun c => (s i c : Rat) * (s k c : Rat)) = (mulI m s (fun i k => s k i) i k : Rat)
 | 0 => rfl
 | m + 1 => by
  show sumH m (fun c => (s i c : Rat) * (s k c : Rat)) + (s i m : Rat) * (s k m : Rat) = _
  rw [ex_sq s i k m, mulI_succ, Rat.intCast_add, Rat.intCast_mul]
theorem ex_sum {n : Nat} {s : Nat → Nat → Int} {h : Nat → Int} {r : Int} (T : TriX n s h r) {i k : Nat} (hi : i < n) (hk : k < n) (f : fineR (dotF (linJ n (finX n s h r i)) (linJ n (finX n s h r k))) = true) :
  toQ (dotF (linJ n (finX n s h r i)) (linJ n (finX n s h r k))) = (sqI n s i k : Rat) - (eI n s h i n : Rat) * (eI n s h k n : Rat) / (aI n s h r n : Rat) := by
 obtain ⟨h1, h2⟩ := dot_lin f
 rw [h2, sumH_congr n fun c hc => ex_col T hi hk hc (h1 c hc).1 (h1 c hc).2]
 rw [ex_tele (fun c => (s i c : Rat) * (s k c : Rat)) (fun t => (eI n s h i t : Rat) * (eI n s h k t : Rat) / (aI n s h r t : Rat)) n n (Nat.le_refl _), ex_sq]
 show ((mulI n s (fun i k => s k i) i k : Int) : Rat) - ((eI n s h i n : Rat) * (eI n s h k n : Rat) / (aI n s h r n : Rat) - (eI n s h i (n - n) : Rat) * (eI n s h k (n - n) : Rat) / (aI n s h r (n - n) : Rat)) = _
 rw [Nat.sub_self, show eI n s h i 0 = 0 from rfl]
 have z : ((0 : Int) : Rat) = 0 := rfl
 rw [z]
 show ((mulI n s (fun i k => s k i) i k : Int) : Rat) - _ = ((mulI n s (fun i k => s k i) i k : Int) : Rat) - _
 simp only [Rat.zero_mul, Rat.div_def]
 grind
theorem fold_bad9 : ∀ (xs : List Fr) (a : Fr), fineR a = !a.bad → fineR (xs.foldl addR a) = !(xs.foldl addR a).bad
 | [], _, h => h
 | x :: xs, a, _ => fold_bad9 xs (addR a x) (add_bad9 a x)
theorem dot_bad9 (xs ys : List Fr) : fineR (dotF xs ys) = !(dotF xs ys).bad := fold_bad9 _ _ (by rw [new_it (n := 0) ⟨by omega, by omega⟩]; rfl)
def uI (n : Nat) (s : Nat → Nat → Int) (h : Nat → Int) (c : Nat) : Int := dotI (linJ n (sqI n s c)) (linJ n h)
theorem uI_e {n : Nat} (h1 : 1 ≤ n) (h3 : n ≤ 3) (s : Nat → Nat → Int) (h : Nat → Int) {c : Nat} (hc : c < n) : uI n s h c = eI n s h c n := by
 rcases (by omega : n = 1 ∨ n = 2 ∨ n = 3) with rfl | rfl | rfl
 ·simp [uI, eI, wI, dotI, linJ, List.range_succ, sqI, mulI, rowM, colM]; grind
 ·simp [uI, eI, wI, dotI, linJ, List.range_succ, sqI, mulI, rowM, colM]; grind
 ·simp [uI, eI, wI, dotI, linJ, List.range_succ, sqI, mulI, rowM, colM]; grind
theorem uI_a {n : Nat} (h1 : 1 ≤ n) (h3 : n ≤ 3) (s : Nat → Nat → Int) (h : Nat → Int) (r : Int) : dotI (linJ n h) (linJ n (uI n s h)) + r = aI n s h r n := by
 rcases (by omega : n = 1 ∨ n = 2 ∨ n = 3) with rfl | rfl | rfl
 ·simp [uI, aI, wI, dotI, linJ, List.range_succ, sqI, mulI, rowM, colM]; grind
 ·simp [uI, aI, wI, dotI, linJ, List.range_succ, sqI, mulI, rowM, colM]; grind
 ·simp [uI, aI, wI, dotI, linJ, List.range_succ, sqI, mulI, rowM, colM]; grind
structure ExO (n : Nat) (S S2 : Nat → Nat → Fr) (H : Nat → Fr) (R : Fr) : Prop where
 a : (runO kdF n S H R n).a = spreadJ kdF n (squareJ kdF n S2) H R
 e : ∀ i, i < n → (runO kdF n S H R n).e i = appJ kdF n (squareJ kdF n S2) H i
 p : ∀ i k, i < n → k < n → (squareJ kdF n (runO kdF n S H R n).s i k).bad = true ∨ (upPJ kdF (fun i j => wholeF (unitI i j)) n (squareJ kdF n S2) H R i k).bad = true ∨ squareJ kdF n (runO kdF n S H R n).s i k = upPJ kdF (fun i j => wholeF (unitI i j)) n (squareJ kdF n S2) H R i k
theorem exO {n : Nat} {s : Nat → Nat → Int} {h : Nat → Int} {r : Int} (T : TriX n s h r) {S : Nat → Nat → Fr} {H : Nat → Fr} (hS : ∀ i k, i < n → k < n → S i k = itF (s i k)) {S2 : Nat → Nat → Fr} (hS2 : ∀ i k, i < n → k < n → S2 i k = itF (s i k)) (hH : ∀ k, k < n → H k = itF (h k)) : ExO n S S2 H (itF r) := by
 obtain ⟨r1, r2, r3⟩ := ex_run T hS hH n (Nat.le_refl _)
 have n3 := T.n3
 have n1 := T.n1
 have sqb : ∀ a b, a < n → b < n → -500 ≤ sqI n s a b ∧ sqI n s a b ≤ 500 := fun a b ha hb => by
  have := dotI_lin_bound (n := n) (A := 5) (B := 5) (f := s a) (g := s b) (fun k hk => T.sb a k ha hk) (fun k hk => T.sb b k hb hk) (by omega) (by omega) n3
  have e : sqI n s a b = dotI (linJ n (s a)) (linJ n (s b)) := rfl
  rw [e]
  omega
 have hp : ∀ a b, a < n → b < n → squareJ kdF n S2 a b = itF (sqI n s a b) := fun a b ha hb => by
  have g : ∀ a b, a < n → b < n → mulK kdF n S2 (fun i k => S2 k i) a b = itF (sqI n s a b) := fun a b ha hb => by
   show dotF (linJ n (S2 a)) (linJ n (S2 b)) = itF (dotI (linJ n (s a)) (linJ n (s b)))
   rw [linJ_congr (fun k hk => hS2 a k ha hk), linJ_congr (fun k hk => hS2 b k hb hk)]
   exact dot_lin_it (A := 5) (B := 5) (fun k hk => T.sb a k ha hk) (fun k hk => T.sb b k hb hk) (by omega) (by omega) (by omega) (by omega)
  show mulK kdF n S2 (fun i k => S2 k i) (max a b) (min a b) = _
  rw [g _ _ (by omega) (by omega), sqI_mir]
 have hu : ∀ c, c < n → appJ kdF n (squareJ kdF n S2) H c = itF (uI n s h c) := fun c hc => by
  show dotF (linJ n (squareJ kdF n S2 c)) (linJ n H) = _
  rw [linJ_congr (fun k hk => hp c k hc hk), linJ_congr hH]
  exact dot_lin_it (A := 500) (B := 5) (fun k hk => sqb c k hc hk) T.hb (by omega) (by omega) (by omega) (by omega)
 have ub : ∀ c, c < n → -50000 ≤ uI n s h c ∧ uI n s h c ≤ 50000 := fun c hc => by
  have := dotI_lin_bound (n := n) (A := 500) (B := 5) (f := sqI n s c) (g := h) (fun k hk => sqb c k hc hk) T.hb (by omega) (by omega) n3
  unfold uI
  omega
 have ha : spreadJ kdF n (squareJ kdF n S2) H (itF r) = itF (aI n s h r n) := by
  show addR (dotF (linJ n H) (linJ n (appJ kdF n (squareJ kdF n S2) H))) (itF r) = _
  rw [linJ_congr hu, linJ_congr hH, dot_lin_it (A := 5) (B := 50000) T.hb ub (by omega) (by omega) (by omega) (by omega)]
  have db := dotI_lin_bound (n := n) (A := 5) (B := 50000) (f := h) (g := uI n s h) T.hb ub (by omega) (by omega) n3
  have := T.r1
  have := T.r5
  rw [add_it (by unfold Wh; omega) (by unfold Wh; omega) (by unfold Wh; omega), uI_a n1 n3]
 refine ⟨by rw [r3, ha], fun i hi => by rw [r2 i hi, hu i hi, uI_e n1 n3 s h hi], fun i k hi hk => ?_⟩
 cases h1 : (squareJ kdF n (runO kdF n S H (itF r) n).s i k).bad
 ·cases h2 : (upPJ kdF (fun i j => wholeF (unitI i j)) n (squareJ kdF n S2) H (itF r) i k).bad
  ·refine .inr (.inr ?_)
   have e0 : squareJ kdF n (runO kdF n S H (itF r) n).s i k = dotF (linJ n (finX n s h r (max i k))) (linJ n (finX n s h r (min i k))) := by
    show dotF (linJ n ((runO kdF n S H (itF r) n).s (max i k))) (linJ n ((runO kdF n S H (itF r) n).s (min i k))) = _
    have g : ∀ a, a < n → linJ n ((runO kdF n S H (itF r) n).s a) = linJ n (finX n s h r a) := fun a ha => linJ_congr fun c hc => by rw [r1 a c ha hc, if_pos (by omega)]
    rw [g _ (by omega), g _ (by omega)]
   have f1 : fineR (squareJ kdF n (runO kdF n S H (itF r) n).s i k) = true := by
    rw [e0] at h1 ⊢
    rw [dot_bad9, h1]
    rfl
   have f2 : fineR (upPJ kdF (fun i j => wholeF (unitI i j)) n (squareJ kdF n S2) H (itF r) i k) = true := by
    have e : fineR (upPJ kdF (fun i j => wholeF (unitI i j)) n (squareJ kdF n S2) H (itF r) i k) = !(upPJ kdF (fun i j => wholeF (unitI i j)) n (squareJ kdF n S2) H (itF r) i k).bad := add_bad9 _ _
    rw [e, h2]
    rfl
   have U := up_q hi hk one9 (fun a b _ _ => by rw [sq_sym9]) f2
   have q1 := f1
   rw [e0] at q1
   have q2 := ex_sum T (show max i k < n by omega) (show min i k < n by omega) q1
   refine fr_eq f1 f2 ?_
   rw [U.ez, hp i k hi hk, hu i hi, hu k hk, ha, itQ, itQ, itQ, itQ, uI_e n1 n3 s h hi, uI_e n1 n3 s h hk, e0, q2, sqI_mir]
   by_cases hik : k ≤ i
   ·rw [Nat.max_eq_left hik, Nat.min_eq_right hik]
   ·rw [Nat.max_eq_right (by omega), Nat.min_eq_left (by omega), Rat.mul_comm (eI n s h k n : Rat)]
  ·exact .inr (.inl rfl)
 ·exact .inl rfl
theorem rq_cellJ {w : World} {p : Option Addr} {n cap : Nat} {xs : List Int} (h : Rq 1 cI w (.slice p n cap) xs) : ∀ k x, xs[k]? = some x → ∃ b o, p = some ⟨b, o, none⟩ ∧ ∀ u, Bl w u → u.cell? ⟨b, o + k, none⟩ = some (.int .i64 x) := by
 intro k x hx
 rcases h with ⟨_, _, _, e, _⟩ | ⟨b, o, c, e, _, hlt, hc⟩
 ·rw [e] at hx; simp at hx
 ·simp only [Value.slice.injEq] at e
  exact ⟨b, o, e.1, fun u hu => (bl_cell hu _ _ hlt).trans (by have := hc k x hx 0 (.int .i64 x) rfl; simpa using this)⟩
theorem Tryz.idx5_0 (p0 p1 p2 p3 p4 : Option Addr) (l0 c0 l1 c1 l2 c2 l3 c3 l4 c4 : Nat) (w : World) : (Instr.index 82 (.agg #[.slice p0 l0 c0, .slice p1 l1 c1, .slice p2 l2 c2, .slice p3 l3 c3, .slice p4 l4 c4]) (.int .i64 0)).run Tryz.prog w = .ok (.slice p0 l0 c0) w := by kernel_rfl
theorem Tryz.idx5_1 (p0 p1 p2 p3 p4 : Option Addr) (l0 c0 l1 c1 l2 c2 l3 c3 l4 c4 : Nat) (w : World) : (Instr.index 82 (.agg #[.slice p0 l0 c0, .slice p1 l1 c1, .slice p2 l2 c2, .slice p3 l3 c3, .slice p4 l4 c4]) (.int .i64 1)).run Tryz.prog w = .ok (.slice p1 l1 c1) w := by kernel_rfl
theorem Tryz.idx5_2 (p0 p1 p2 p3 p4 : Option Addr) (l0 c0 l1 c1 l2 c2 l3 c3 l4 c4 : Nat) (w : World) : (Instr.index 82 (.agg #[.slice p0 l0 c0, .slice p1 l1 c1, .slice p2 l2 c2, .slice p3 l3 c3, .slice p4 l4 c4]) (.int .i64 2)).run Tryz.prog w = .ok (.slice p2 l2 c2) w := by kernel_rfl
theorem Tryz.idx5_3 (p0 p1 p2 p3 p4 : Option Addr) (l0 c0 l1 c1 l2 c2 l3 c3 l4 c4 : Nat) (w : World) : (Instr.index 82 (.agg #[.slice p0 l0 c0, .slice p1 l1 c1, .slice p2 l2 c2, .slice p3 l3 c3, .slice p4 l4 c4]) (.int .i64 3)).run Tryz.prog w = .ok (.slice p3 l3 c3) w := by kernel_rfl
theorem Tryz.idx5_4 (p0 p1 p2 p3 p4 : Option Addr) (l0 c0 l1 c1 l2 c2 l3 c3 l4 c4 : Nat) (w : World) : (Instr.index 82 (.agg #[.slice p0 l0 c0, .slice p1 l1 c1, .slice p2 l2 c2, .slice p3 l3 c3, .slice p4 l4 c4]) (.int .i64 4)).run Tryz.prog w = .ok (.slice p4 l4 c4) w := by kernel_rfl
structure FewJ (m : Nat) (X Ro Fm Gm H : List Int) (r z : Int) : Prop where
 m1 : 1 ≤ m
 m3 : m ≤ 3
 x : X.length = m
 h : H.length = m
 ro : Ro.length = m * m
 f : Fm.length = m * m
 g : Gm.length = m * m
 r1 : 1 ≤ r
 r5 : r ≤ 5
 z1 : -5 ≤ z
 z5 : z ≤ 5
 sx : Sml 5 X
 sh : Sml 5 H
 sro : Sml 5 Ro
 sf : Sml 5 Fm
 sg : Sml 5 Gm
theorem take_all9 {L : List Int} {n : Nat} (h : Sml 5 (L.take 10)) (hl : L.length = n) (hn : n ≤ 9) : Sml 5 L := by
 rw [List.take_of_length_le (by omega)] at h
 exact h
def FewR (n r z : Int) (X Ro Fm Gm H : List Int) (w : World) (e : Ending) (w' : World) : Prop := ∃ b, e = .returned (.bool b) ∧ (b = true → ∃ m : Nat, n = m ∧ FewJ m X Ro Fm Gm H r z) ∧ Bl w w'
theorem fewR {n r z : Int} {X Ro Fm Gm H : List Int} {w w' : World} (b : Bool) (h : b = true → ∃ m : Nat, n = m ∧ FewJ m X Ro Fm Gm H r z) (k : Bl w w') : FewR n r z X Ro Fm Gm H w (.returned (.bool b)) w' := ⟨b, rfl, h, k⟩
set_option maxRecDepth 100000 in
set_option maxHeartbeats 8000000 in
theorem few9_any (n r z : Int) (px pr pf pg ph : Option Addr) (lx cx lr cr lf cf lg cg lh ch : Nat) (X Ro Fm Gm H : List Int) (w : World) (hX : Rq 1 cI w (.slice px lx cx) X) (hR : Rq 1 cI w (.slice pr lr cr) Ro) (hF : Rq 1 cI w (.slice pf lf cf) Fm) (hG : Rq 1 cI w (.slice pg lg cg) Gm) (hH : Rq 1 cI w (.slice ph lh ch) H)
  (eX : X.length = lx) (eR : Ro.length = lr) (eF : Fm.length = lf) (eG : Gm.length = lg) (eH : H.length = lh) :
  Calls Tryz.prog 9 #[.agg #[.int .i64 n, .slice px lx cx, .slice pr lr cr, .slice pf lf cf, .slice pg lg cg, .slice ph lh ch, .int .i64 r, .int .i64 z]] w (FewR n r z X Ro Fm Gm H w) := by
 obtain ⟨W, hW⟩ : ∃ W, W = w.alloc (.cells #[.int .i64 n, .slice px lx cx, .slice pr lr cr, .slice pf lf cf, .slice pg lg cg, .slice ph lh ch, .int .i64 r, .int .i64 z] 24) := ⟨_, rfl⟩
 have b0 : Bl w W := by rw [hW]; exact (Bl.refl _).alloc _
 have BW := hideP b0
 have B0 := hideP b0
 have HR0 := hideP (rq_cellJ hX)
 have HR1 := hideP (rq_cellJ hH)
 have HR2 := hideP (rq_cellJ hR)
 have HR3 := hideP (rq_cellJ hF)
 have HR4 := hideP (rq_cellJ hG)
 have HL0 := hideP eX
 have HL1 := hideP eH
 have HL2 := hideP eR
 have HL3 := hideP eF
 have HL4 := hideP eG
 have d0 : W.cell? ⟨w.heap.size, 0, none⟩ = some (.int .i64 n) := by rw [hW]; simp [go_sem]
 have d1 : W.cell? ⟨w.heap.size, 1, none⟩ = some (.slice px lx cx) := by rw [hW]; simp [go_sem]
 have d2 : W.cell? ⟨w.heap.size, 2, none⟩ = some (.slice pr lr cr) := by rw [hW]; simp [go_sem]
 have d3 : W.cell? ⟨w.heap.size, 3, none⟩ = some (.slice pf lf cf) := by rw [hW]; simp [go_sem]
 have d4 : W.cell? ⟨w.heap.size, 4, none⟩ = some (.slice pg lg cg) := by rw [hW]; simp [go_sem]
 have d5 : W.cell? ⟨w.heap.size, 5, none⟩ = some (.slice ph lh ch) := by rw [hW]; simp [go_sem]
 have d6 : W.cell? ⟨w.heap.size, 6, none⟩ = some (.int .i64 r) := by rw [hW]; simp [go_sem]
 have d7 : W.cell? ⟨w.heap.size, 7, none⟩ = some (.int .i64 z) := by rw [hW]; simp [go_sem]
 have HD0 := hideP d0
 have HD1 := hideP d1
 have HD2 := hideP d2
 have HD3 := hideP d3
 have HD4 := hideP d4
 have HD5 := hideP d5
 have HW := hideP hW
 clear hX hR hF hG hH eX eR eF eG eH b0
 go_enter Tryz.func9, Tryz.ntmps9
 clear hW d0 d1 d2 d3 d4 d5 d6 d7
 by_cases g1 : n < 1
 ·go_wp2
  go_ret
  exact fewR false nofun ((Bl.refl _).alloc _)
 by_cases g2 : 3 < n
 ·go_wp2
  go_ret
  exact fewR false nofun ((Bl.refl _).alloc _)
 obtain ⟨m, rfl⟩ := Int.eq_ofNat_of_zero_le (show 0 ≤ n by omega)
 by_cases g3 : lx = m
 ·by_cases g4 : lh = m
  ·by_cases g5 : r < 1
   ·go_wp2
    go_ret
    exact fewR false nofun ((Bl.refl _).alloc _)
   by_cases g6 : 5 < r
   ·go_wp2
    go_ret
    exact fewR false nofun ((Bl.refl _).alloc _)
   by_cases g7 : z < -5
   ·go_wp2
    go_ret
    exact fewR false nofun ((Bl.refl _).alloc _)
   by_cases g8 : 5 < z
   ·go_wp2
    go_ret
    exact fewR false nofun ((Bl.refl _).alloc _)
   have e3 : ((lx : Int) != (m : Int)) = false := by simp; omega
   have e4 : ((lh : Int) != (m : Int)) = false := by simp; omega
   have G3 := hideP g3
   have G4 := hideP g4
   clear g3 g4
   go_wp2_with fail
   rw [← HW.out]
   have d0 := HD0.out
   have d1 := HD1.out
   have d2 := HD2.out
   have d3 := HD3.out
   have d4 := HD4.out
   have d5 := HD5.out
   go_loopw [61] (fun v wr => ∃ i : Nat, v = .int .i64 i ∧ i ≤ 5 ∧ ((0 < i → Sml 5 (X.take 10)) ∧ (1 < i → Sml 5 (H.take 10)) ∧ (2 < i → Sml 5 (Ro.take 10)) ∧ (3 < i → Sml 5 (Fm.take 10)) ∧ (4 < i → Sml 5 (Gm.take 10))) ∧ wr = W) (fun v _ => 5 - (intOf v).toNat)
   case atStart => exact ⟨0, rfl, by omega, ⟨fun h => absurd h (by omega), fun h => absurd h (by omega), fun h => absurd h (by omega), fun h => absurd h (by omega), fun h => absurd h (by omega)⟩, rfl⟩
   case round =>
    obtain ⟨i, rfl, hi, ⟨i0, i1, i2, i3, i4⟩, rfl⟩ := hrel
    have HI0 := hideP i0
    have HI1 := hideP i1
    have HI2 := hideP i2
    have HI3 := hideP i3
    have HI4 := hideP i4
    clear i0 i1 i2 i3 i4
    obtain ⟨wq, hwq⟩ : ∃ wq : World, wq = wr := ⟨_, rfl⟩
    subst hwq
    by_cases hlt : i < 5
    ·rcases (by omega : i = 0 ∨ i = 1 ∨ i = 2 ∨ i = 3 ∨ i = 4) with rfl | rfl | rfl | rfl | rfl
     ·have IX := Tryz.idx5_0 px ph pr pf pg lx cx lh ch lr cr lf cf lg cg wq
      go_wp2_with fail
      go_loopw [5] (fun v wr => ∃ k : Nat, v = .int .i64 k ∧ k ≤ X.length ∧ k ≤ 10 ∧ Sml 5 (X.take k) ∧ wr = wq) (fun v _ => 10 - (intOf v).toNat)
      case atStart => exact ⟨0, rfl, Nat.zero_le _, by omega, fun x hx => by simp at hx, rfl⟩
      case round =>
       obtain ⟨k, rfl, hk, hk2, hS, rfl⟩ := hrel
       have HS0 := hideP hS
       have hlen := HL0.out
       clear hS
       by_cases hlt : k < X.length ∧ k ≤ 9
       ·obtain ⟨hlt, hlt2⟩ := hlt
        obtain ⟨x, hx⟩ : ∃ x, X[k]? = some x := ⟨_, List.getElem?_eq_getElem hlt⟩
        obtain ⟨b, o, hp, hcell⟩ := HR0.out k x hx
        have cx9 := hcell wr BW.out
        have HT := hideP (show X.take (k + 1) = X.take k ++ [x] by rw [List.take_add_one, hx]; rfl)
        subst hp
        clear hcell hx
        by_cases g1 : x < -5
        ·go_wp2
         go_ret
         exact fewR false nofun B0.out
        ·by_cases g2 : 5 < x
         ·go_wp2
          go_ret
          exact fewR false nofun B0.out
         ·go_wp2
          go_roundw
          case rel =>
           refine ⟨k + 1, by simp, by omega, by omega, ?_⟩
           rw [HT.out]
           intro y hy
           rcases List.mem_append.1 hy with hy | hy
           ·exact HS0.out y hy
           ·simp at hy; omega
          case measure => simp [intOf]; omega
       ·have HS := hideP (show Sml 5 (X.take 10) from by
         by_cases h9 : k ≤ 9
         ·have e : X.take 10 = X.take k := by rw [List.take_of_length_le (by omega), List.take_of_length_le (by omega)]
          rw [e]; exact HS0.out
         ·obtain rfl : k = 10 := by omega
          exact HS0.out)
        by_cases h9 : k < X.length
        ·have h10 : ¬ k ≤ 9 := fun h => hlt ⟨h9, h⟩
         go_wp2_with fail
         go_roundw
         case rel => exact ⟨1, by simp, by omega, ⟨fun h => HS.out, fun h => absurd h (by omega), fun h => absurd h (by omega), fun h => absurd h (by omega), fun h => absurd h (by omega)⟩, trivial⟩
         case measure => simp [intOf]
        ·go_wp2_with fail
         go_roundw
         case rel => exact ⟨1, by simp, by omega, ⟨fun h => HS.out, fun h => absurd h (by omega), fun h => absurd h (by omega), fun h => absurd h (by omega), fun h => absurd h (by omega)⟩, trivial⟩
         case measure => simp [intOf]
     ·have IX := Tryz.idx5_1 px ph pr pf pg lx cx lh ch lr cr lf cf lg cg wq
      go_wp2_with fail
      go_loopw [5] (fun v wr => ∃ k : Nat, v = .int .i64 k ∧ k ≤ H.length ∧ k ≤ 10 ∧ Sml 5 (H.take k) ∧ wr = wq) (fun v _ => 10 - (intOf v).toNat)
      case atStart => exact ⟨0, rfl, Nat.zero_le _, by omega, fun x hx => by simp at hx, rfl⟩
      case round =>
       obtain ⟨k, rfl, hk, hk2, hS, rfl⟩ := hrel
       have HS0 := hideP hS
       have hlen := HL1.out
       clear hS
       by_cases hlt : k < H.length ∧ k ≤ 9
       ·obtain ⟨hlt, hlt2⟩ := hlt
        obtain ⟨x, hx⟩ : ∃ x, H[k]? = some x := ⟨_, List.getElem?_eq_getElem hlt⟩
        obtain ⟨b, o, hp, hcell⟩ := HR1.out k x hx
        have cx9 := hcell wr BW.out
        have HT := hideP (show H.take (k + 1) = H.take k ++ [x] by rw [List.take_add_one, hx]; rfl)
        subst hp
        clear hcell hx
        by_cases g1 : x < -5
        ·go_wp2
         go_ret
         exact fewR false nofun B0.out
        ·by_cases g2 : 5 < x
         ·go_wp2
          go_ret
          exact fewR false nofun B0.out
         ·go_wp2
          go_roundw
          case rel =>
           refine ⟨k + 1, by simp, by omega, by omega, ?_⟩
           rw [HT.out]
           intro y hy
           rcases List.mem_append.1 hy with hy | hy
           ·exact HS0.out y hy
           ·simp at hy; omega
          case measure => simp [intOf]; omega
       ·have HS := hideP (show Sml 5 (H.take 10) from by
         by_cases h9 : k ≤ 9
         ·have e : H.take 10 = H.take k := by rw [List.take_of_length_le (by omega), List.take_of_length_le (by omega)]
          rw [e]; exact HS0.out
         ·obtain rfl : k = 10 := by omega
          exact HS0.out)
        by_cases h9 : k < H.length
        ·have h10 : ¬ k ≤ 9 := fun h => hlt ⟨h9, h⟩
         go_wp2_with fail
         go_roundw
         case rel => exact ⟨2, by simp, by omega, ⟨fun h => (HI0.out (by omega)), fun h => HS.out, fun h => absurd h (by omega), fun h => absurd h (by omega), fun h => absurd h (by omega)⟩, trivial⟩
         case measure => simp [intOf]
        ·go_wp2_with fail
         go_roundw
         case rel => exact ⟨2, by simp, by omega, ⟨fun h => (HI0.out (by omega)), fun h => HS.out, fun h => absurd h (by omega), fun h => absurd h (by omega), fun h => absurd h (by omega)⟩, trivial⟩
         case measure => simp [intOf]
     ·have IX := Tryz.idx5_2 px ph pr pf pg lx cx lh ch lr cr lf cf lg cg wq
      go_wp2_with fail
      go_loopw [5] (fun v wr => ∃ k : Nat, v = .int .i64 k ∧ k ≤ Ro.length ∧ k ≤ 10 ∧ Sml 5 (Ro.take k) ∧ wr = wq) (fun v _ => 10 - (intOf v).toNat)
      case atStart => exact ⟨0, rfl, Nat.zero_le _, by omega, fun x hx => by simp at hx, rfl⟩
      case round =>
       obtain ⟨k, rfl, hk, hk2, hS, rfl⟩ := hrel
       have HS0 := hideP hS
       have hlen := HL2.out
       clear hS
       by_cases hlt : k < Ro.length ∧ k ≤ 9
       ·obtain ⟨hlt, hlt2⟩ := hlt
        obtain ⟨x, hx⟩ : ∃ x, Ro[k]? = some x := ⟨_, List.getElem?_eq_getElem hlt⟩
        obtain ⟨b, o, hp, hcell⟩ := HR2.out k x hx
        have cx9 := hcell wr BW.out
        have HT := hideP (show Ro.take (k + 1) = Ro.take k ++ [x] by rw [List.take_add_one, hx]; rfl)
        subst hp
        clear hcell hx
        by_cases g1 : x < -5
        ·go_wp2
         go_ret
         exact fewR false nofun B0.out
        ·by_cases g2 : 5 < x
         ·go_wp2
          go_ret
          exact fewR false nofun B0.out
         ·go_wp2
          go_roundw
          case rel =>
           refine ⟨k + 1, by simp, by omega, by omega, ?_⟩
           rw [HT.out]
           intro y hy
           rcases List.mem_append.1 hy with hy | hy
           ·exact HS0.out y hy
           ·simp at hy; omega
          case measure => simp [intOf]; omega
       ·have HS := hideP (show Sml 5 (Ro.take 10) from by
         by_cases h9 : k ≤ 9
         ·have e : Ro.take 10 = Ro.take k := by rw [List.take_of_length_le (by omega), List.take_of_length_le (by omega)]
          rw [e]; exact HS0.out
         ·obtain rfl : k = 10 := by omega
          exact HS0.out)
        by_cases h9 : k < Ro.length
        ·have h10 : ¬ k ≤ 9 := fun h => hlt ⟨h9, h⟩
         go_wp2_with fail
         go_roundw
         case rel => exact ⟨3, by simp, by omega, ⟨fun h => (HI0.out (by omega)), fun h => (HI1.out (by omega)), fun h => HS.out, fun h => absurd h (by omega), fun h => absurd h (by omega)⟩, trivial⟩
         case measure => simp [intOf]
        ·go_wp2_with fail
         go_roundw
         case rel => exact ⟨3, by simp, by omega, ⟨fun h => (HI0.out (by omega)), fun h => (HI1.out (by omega)), fun h => HS.out, fun h => absurd h (by omega), fun h => absurd h (by omega)⟩, trivial⟩
         case measure => simp [intOf]
     ·have IX := Tryz.idx5_3 px ph pr pf pg lx cx lh ch lr cr lf cf lg cg wq
      go_wp2_with fail
      go_loopw [5] (fun v wr => ∃ k : Nat, v = .int .i64 k ∧ k ≤ Fm.length ∧ k ≤ 10 ∧ Sml 5 (Fm.take k) ∧ wr = wq) (fun v _ => 10 - (intOf v).toNat)
      case atStart => exact ⟨0, rfl, Nat.zero_le _, by omega, fun x hx => by simp at hx, rfl⟩
      case round =>
       obtain ⟨k, rfl, hk, hk2, hS, rfl⟩ := hrel
       have HS0 := hideP hS
       have hlen := HL3.out
       clear hS
       by_cases hlt : k < Fm.length ∧ k ≤ 9
       ·obtain ⟨hlt, hlt2⟩ := hlt
        obtain ⟨x, hx⟩ : ∃ x, Fm[k]? = some x := ⟨_, List.getElem?_eq_getElem hlt⟩
        obtain ⟨b, o, hp, hcell⟩ := HR3.out k x hx
        have cx9 := hcell wr BW.out
        have HT := hideP (show Fm.take (k + 1) = Fm.take k ++ [x] by rw [List.take_add_one, hx]; rfl)
        subst hp
        clear hcell hx
        by_cases g1 : x < -5
        ·go_wp2
         go_ret
         exact fewR false nofun B0.out
        ·by_cases g2 : 5 < x
         ·go_wp2
          go_ret
          exact fewR false nofun B0.out
         ·go_wp2
          go_roundw
          case rel =>
           refine ⟨k + 1, by simp, by omega, by omega, ?_⟩
           rw [HT.out]
           intro y hy
           rcases List.mem_append.1 hy with hy | hy
           ·exact HS0.out y hy
           ·simp at hy; omega
          case measure => simp [intOf]; omega
       ·have HS := hideP (show Sml 5 (Fm.take 10) from by
         by_cases h9 : k ≤ 9
         ·have e : Fm.take 10 = Fm.take k := by rw [List.take_of_length_le (by omega), List.take_of_length_le (by omega)]
          rw [e]; exact HS0.out
         ·obtain rfl : k = 10 := by omega
          exact HS0.out)
        by_cases h9 : k < Fm.length
        ·have h10 : ¬ k ≤ 9 := fun h => hlt ⟨h9, h⟩
         go_wp2_with fail
         go_roundw
         case rel => exact ⟨4, by simp, by omega, ⟨fun h => (HI0.out (by omega)), fun h => (HI1.out (by omega)), fun h => (HI2.out (by omega)), fun h => HS.out, fun h => absurd h (by omega)⟩, trivial⟩
         case measure => simp [intOf]
        ·go_wp2_with fail
         go_roundw
         case rel => exact ⟨4, by simp, by omega, ⟨fun h => (HI0.out (by omega)), fun h => (HI1.out (by omega)), fun h => (HI2.out (by omega)), fun h => HS.out, fun h => absurd h (by omega)⟩, trivial⟩
         case measure => simp [intOf]
     ·have IX := Tryz.idx5_4 px ph pr pf pg lx cx lh ch lr cr lf cf lg cg wq
      go_wp2_with fail
      go_loopw [5] (fun v wr => ∃ k : Nat, v = .int .i64 k ∧ k ≤ Gm.length ∧ k ≤ 10 ∧ Sml 5 (Gm.take k) ∧ wr = wq) (fun v _ => 10 - (intOf v).toNat)
      case atStart => exact ⟨0, rfl, Nat.zero_le _, by omega, fun x hx => by simp at hx, rfl⟩
      case round =>
       obtain ⟨k, rfl, hk, hk2, hS, rfl⟩ := hrel
       have HS0 := hideP hS
       have hlen := HL4.out
       clear hS
       by_cases hlt : k < Gm.length ∧ k ≤ 9
       ·obtain ⟨hlt, hlt2⟩ := hlt
        obtain ⟨x, hx⟩ : ∃ x, Gm[k]? = some x := ⟨_, List.getElem?_eq_getElem hlt⟩
        obtain ⟨b, o, hp, hcell⟩ := HR4.out k x hx
        have cx9 := hcell wr BW.out
        have HT := hideP (show Gm.take (k + 1) = Gm.take k ++ [x] by rw [List.take_add_one, hx]; rfl)
        subst hp
        clear hcell hx
        by_cases g1 : x < -5
        ·go_wp2
         go_ret
         exact fewR false nofun B0.out
        ·by_cases g2 : 5 < x
         ·go_wp2
          go_ret
          exact fewR false nofun B0.out
         ·go_wp2
          go_roundw
          case rel =>
           refine ⟨k + 1, by simp, by omega, by omega, ?_⟩
           rw [HT.out]
           intro y hy
           rcases List.mem_append.1 hy with hy | hy
           ·exact HS0.out y hy
           ·simp at hy; omega
          case measure => simp [intOf]; omega
       ·have HS := hideP (show Sml 5 (Gm.take 10) from by
         by_cases h9 : k ≤ 9
         ·have e : Gm.take 10 = Gm.take k := by rw [List.take_of_length_le (by omega), List.take_of_length_le (by omega)]
          rw [e]; exact HS0.out
         ·obtain rfl : k = 10 := by omega
          exact HS0.out)
        by_cases h9 : k < Gm.length
        ·have h10 : ¬ k ≤ 9 := fun h => hlt ⟨h9, h⟩
         go_wp2_with fail
         go_roundw
         case rel => exact ⟨5, by simp, by omega, ⟨fun h => (HI0.out (by omega)), fun h => (HI1.out (by omega)), fun h => (HI2.out (by omega)), fun h => (HI3.out (by omega)), fun h => HS.out⟩, trivial⟩
         case measure => simp [intOf]
        ·go_wp2_with fail
         go_roundw
         case rel => exact ⟨5, by simp, by omega, ⟨fun h => (HI0.out (by omega)), fun h => (HI1.out (by omega)), fun h => (HI2.out (by omega)), fun h => (HI3.out (by omega)), fun h => HS.out⟩, trivial⟩
         case measure => simp [intOf]
    ·obtain rfl : i = 5 := by omega
     obtain ⟨mm, hmm⟩ : ∃ mm, mm = m * m := ⟨_, rfl⟩
     have hMM : (m : Int) * (m : Int) = (mm : Int) := by rw [hmm, Int.natCast_mul]
     have m3 : m ≤ 3 := by omega
     have mm9 : mm ≤ 9 := by rw [hmm]; exact Nat.mul_le_mul m3 m3
     have HMM := hideP hmm
     clear hmm
     by_cases k1 : lr = mm
     ·by_cases k2 : lf = mm
      ·by_cases k3 : lg = mm
       ·have f1 : ((lr : Int) == (mm : Int)) = true := by simp; omega
        have f2 : ((lf : Int) == (mm : Int)) = true := by simp; omega
        have f3 : ((lg : Int) == (mm : Int)) = true := by simp; omega
        go_wp2
        go_ret
        refine fewR _ (fun _ => ⟨m, rfl, ⟨by omega, by omega, by rw [HL0.out, G3.out], by rw [HL1.out, G4.out], by rw [HL2.out, k1, HMM.out], by rw [HL3.out, k2, HMM.out], by rw [HL4.out, k3, HMM.out], by omega, by omega, by omega, by omega, ?_, ?_, ?_, ?_, ?_⟩⟩) B0.out
        ·exact take_all9 (HI0.out (by omega)) HL0.out (by have := G3.out; omega)
        ·exact take_all9 (HI1.out (by omega)) HL1.out (by have := G4.out; omega)
        ·exact take_all9 (HI2.out (by omega)) HL2.out (by omega)
        ·exact take_all9 (HI3.out (by omega)) HL3.out (by omega)
        ·exact take_all9 (HI4.out (by omega)) HL4.out (by omega)
       ·have f1 : ((lr : Int) == (mm : Int)) = true := by simp; omega
        have f2 : ((lf : Int) == (mm : Int)) = true := by simp; omega
        have f3 : ((lg : Int) == (mm : Int)) = false := by simp; omega
        go_wp2
        go_ret
        exact fewR false nofun B0.out
      ·have f1 : ((lr : Int) == (mm : Int)) = true := by simp; omega
       have f2 : ((lf : Int) == (mm : Int)) = false := by simp; omega
       go_wp2
       go_ret
       exact fewR false nofun B0.out
     ·have f1 : ((lr : Int) == (mm : Int)) = false := by simp; omega
      go_wp2
      go_ret
      exact fewR false nofun B0.out
  ·have e3 : ((lx : Int) != (m : Int)) = false := by simp; omega
   have e4 : ((lh : Int) != (m : Int)) = true := by simp; omega
   go_wp2
   go_ret
   exact fewR false nofun ((Bl.refl _).alloc _)
 ·have e3 : ((lx : Int) != (m : Int)) = true := by simp; omega
  go_wp2
  go_ret
  exact fewR false nofun ((Bl.refl _).alloc _)
theorem Tryz.nwFields : Tryz.prog.underlying 41 = some (.struct (Tryz.prog.fieldsOf 41)) := by kernel_rfl
theorem Tryz.nwHeld : Tryz.prog.stoodInHeld 41 = false := by kernel_rfl
theorem Tryz.nwGuard : Tryz.prog.eqGuardType Tryz.prog.depth 41 = false := by kernel_rfl
theorem Tryz.nwList : (Tryz.prog.fieldsOf 41).toList.map (fun f => (f.name, f.type, f.offset)) = [("Surprise", 34, 0), ("Spread", 34, 3)] := by kernel_rfl
theorem eqIn_fr (d : Nat) (a : Fr) (w : World) : (Op.equalIn (d + 2) 34 (frV a) (frV a)).run Tryz.prog w = .ok true w := by
 rw [run_equalIn_agg _ _ _ _ _ Tryz.frFields Tryz.frHeld]
 rw [eqFields_map (d + 1) #[.int .i64 a.n, .int .i64 a.d, .bool a.bad] #[.int .i64 a.n, .int .i64 a.d, .bool a.bad] _ [{ name := "N", type := 3, offset := 0, embedded := false, tag := "", pkgPath := "", byteOffset := 0 }, { name := "D", type := 3, offset := 1, embedded := false, tag := "", pkgPath := "", byteOffset := 0 }, { name := "Bad", type := 4, offset := 2, embedded := false, tag := "", pkgPath := "", byteOffset := 0 }] Tryz.frList]
 simp [Op.eqFields, part, go_sem]
theorem neq_news (a b : Fr) (w : World) : (binOp .neq 41 (.agg #[.int .i64 a.n, .int .i64 a.d, .bool a.bad, .int .i64 b.n, .int .i64 b.d, .bool b.bad]) (.agg #[.int .i64 a.n, .int .i64 a.d, .bool a.bad, .int .i64 b.n, .int .i64 b.d, .bool b.bad])).run Tryz.prog w = .ok (.bool false) w := by
 rw [run_neq_struct, run_equalIn_agg _ _ _ _ _ Tryz.nwFields Tryz.nwHeld]
 rw [eqFields_map 9999 _ _ _ [{ name := "Surprise", type := 34, offset := 0, embedded := false, tag := "", pkgPath := "", byteOffset := 0 }, { name := "Spread", type := 34, offset := 3, embedded := false, tag := "", pkgPath := "", byteOffset := 0 }] Tryz.nwList]
 have e1 := eqIn_fr 9997 a w
 have e2 := eqIn_fr 9997 b w
 simp [Op.eqFields, part, go_sem] at e1 e2 ⊢
theorem rq_cellsLF {w : World} {p : Option Addr} {n cap : Nat} {L : List Fr} (h : Rq 3 cellsF w (.slice p n cap) L) (h0 : 0 < n) : ∃ g o, p = some ⟨g, o, none⟩ ∧ L.length = n ∧ ∀ u, Bl w u → ∀ (j : Nat) (x : Fr), L[j]? = some x →
  u.cell? ⟨g, o + j * 3, none⟩ = some (.int .i64 x.n) ∧ u.cell? ⟨g, o + j * 3 + 1, none⟩ = some (.int .i64 x.d) ∧ u.cell? ⟨g, o + j * 3 + 2, none⟩ = some (.bool x.bad) := by
 rcases h with ⟨p', cap', e, hx, _⟩ | ⟨b, o, cap', e, hc, hb, hx⟩
 ·simp only [Value.slice.injEq] at e
  omega
 ·simp only [Value.slice.injEq] at e
  obtain ⟨rfl, rfl, rfl⟩ := e
  refine ⟨b, o, rfl, rfl, fun u hu j x hj => ⟨?_, ?_, ?_⟩⟩
  ·have := hx j x hj 0 _ rfl
   exact (bl_cell hu _ _ hb).trans (by simpa using this)
  ·exact (bl_cell hu _ _ hb).trans (hx j x hj 1 _ rfl)
  ·exact (bl_cell hu _ _ hb).trans (hx j x hj 2 _ rfl)
theorem mk_at {α : Type} {R C : Nat} (f : Nat → Nat → α) {t : Nat} (h : t < R * C) : (mk R C f)[t]? = some (f (t / C) (t % C)) ∧ t / C < R ∧ t % C < C := by
 have hC : 0 < C := by
  rcases Nat.eq_zero_or_pos C with rfl | h0
  ·simp at h
  ·exact h0
 have h1 : t / C < R := Nat.div_lt_of_lt_mul (by rw [Nat.mul_comm]; exact h)
 have h2 := Nat.mod_lt t hC
 refine ⟨?_, h1, h2⟩
 have e : t / C * C + t % C = t := by rw [Nat.mul_comm]; exact Nat.div_add_mod t C
 have := mk_get (R := R) (C := C) f h1 h2
 rw [e] at this
 exact this
theorem getD_sml9 {A : Int} {L : List Int} (h : Sml A L) {i : Nat} (hi : i < L.length) : -A ≤ L.getD i 0 ∧ L.getD i 0 ≤ A := by
 rw [List.getD_eq_getElem?_getD, List.getElem?_eq_getElem hi]
 exact h _ (List.getElem_mem hi)
theorem ex10 {m : Nat} {Ro H : List Int} {r : Int} (m1 : 1 ≤ m) (m3 : m ≤ 3) (hr : Ro.length = m * m) (hh : H.length = m) (sh : Sml 5 H) (sr : Sml 5 Ro) (r1 : 1 ≤ r) (r5 : r ≤ 5) :
  ExO m (clrF fun i k => wholeF (ofL m (mk m m (clrI (ofL m Ro))) i k)) (fun i k => wholeF (ofL m (mk m m (clrI (ofL m Ro))) i k)) (fun i => wholeF (H.getD i 0)) (newR r 1) := by
 have ho := ofL_sml hr sr
 have T : TriX m (clrI (ofL m Ro)) (fun i => H.getD i 0) r := ⟨m1, m3, fun i k hi hk => by have := ho i k hi hk; unfold clrI; split <;> omega, fun i k hik => by unfold clrI; rw [if_neg (by omega)], fun k hk => getD_sml9 sh (by omega), r1, r5⟩
 have w0 : ∀ i k, i < m → k < m → wholeF (ofL m (mk m m (clrI (ofL m Ro))) i k) = itF (clrI (ofL m Ro) i k) := fun i k hi hk => by
  rw [ofL_mk7 _ hi hk]
  have := T.sb i k hi hk
  exact whole_it (by unfold Wh; omega)
 rw [new_it (n := r) (by unfold Wh; omega)]
 refine exO T (fun i k hi hk => ?_) w0 (fun k hk => by have := T.hb k hk; exact whole_it (by unfold Wh; omega))
 show (if k ≤ i then wholeF (ofL m (mk m m (clrI (ofL m Ro))) i k) else wholeF 0) = _
 by_cases h : k ≤ i
 ·rw [if_pos h, w0 i k hi hk]
 ·rw [if_neg h]
  unfold clrI
  rw [if_neg h]
  exact whole_it (by unfold Wh; omega)
theorem whole10F_call (R C : Nat) (p : Option Addr) (n cap : Nat) (ns : List Int) (w : World) (hr : Rq 1 cI w (.slice p n cap) ns) (hd : Dim R C) (hn : n = R * C) (hl : ns.length = n) :
  Calls Tryz.prog 12 #[.int .i64 R, .int .i64 C, .slice p n cap] w fun e w' => ∃ p' cap', e = .returned (.tuple #[mV R C p' n cap', .bool true]) ∧ Mx 3 cellsF w' R C p' n cap' (fun i k => wholeF (ofL C ns i k)) ∧ Bl w w' := by
 refine (mWholeF R C p n cap ns w hr (fitB_dim hd hn) hl).mono ?_
 rintro e w' ⟨p', cap', rfl, hR, hb⟩
 refine ⟨p', cap', rfl, ⟨hd, hn, ?_⟩, hb⟩
 have e := ofL_mk (R := R) (M := C) (ns := ns) (by rw [hl, hn])
 rw [e, mk_map] at hR
 exact hR.q
set_option maxRecDepth 100000 in
set_option maxHeartbeats 16000000 in
theorem walk_RootExact (n r z : Int) (vx vr vf vg vh : Value) (X Ro Fm Gm H : List Int) (w : World) (hX : Rq 1 cI w vx X) (hR : Rq 1 cI w vr Ro) (hF : Rq 1 cI w vf Fm) (hG : Rq 1 cI w vg Gm) (hH : Rq 1 cI w vh H) :
  Calls Tryz.prog 5 #[.agg #[.int .i64 n, vx, vr, vf, vg, vh, .int .i64 r, .int .i64 z]] w fun e w' => e = .returned (.bool true) ∧ Bl w w' := by
 have fm : Tryz.prog.follows .mixedOrders = true := by kernel_rfl
 have egW := enters_of Tryz.func16 (by kernel_rfl) rfl
 have egN := enters_of Tryz.func26 (by kernel_rfl) rfl
 have egU := enters_of Tryz.func15 (by kernel_rfl) rfl
 have egQ := enters_of Tryz.func17 (by kernel_rfl) rfl
 have egNr := enters_of Tryz.func25 (by kernel_rfl) rfl
 have egUr := enters_of Tryz.func27 (by kernel_rfl) rfl
 have AW := hideP awake10_any
 obtain ⟨px, cx, rfl, _, _⟩ := hX.cut
 obtain ⟨pr, cr, rfl, _, _⟩ := hR.cut
 obtain ⟨pf, cf, rfl, _, _⟩ := hF.cut
 obtain ⟨pg, cg, rfl, _, _⟩ := hG.cut
 obtain ⟨ph, ch, rfl, _, _⟩ := hH.cut
 obtain ⟨lx, hlx⟩ : ∃ l, l = X.length := ⟨_, rfl⟩
 obtain ⟨lr, hlr⟩ : ∃ l, l = Ro.length := ⟨_, rfl⟩
 obtain ⟨lf, hlf⟩ : ∃ l, l = Fm.length := ⟨_, rfl⟩
 obtain ⟨lg, hlg⟩ : ∃ l, l = Gm.length := ⟨_, rfl⟩
 obtain ⟨lh, hlh⟩ : ∃ l, l = H.length := ⟨_, rfl⟩
 rw [← hlx] at hX
 rw [← hlr] at hR
 rw [← hlf] at hF
 rw [← hlg] at hG
 rw [← hlh] at hH
 rw [← hlx, ← hlr, ← hlf, ← hlg, ← hlh]
 obtain ⟨W, hW⟩ : ∃ W, W = w.alloc (.cells #[.int .i64 n, .slice px lx cx, .slice pr lr cr, .slice pf lf cf, .slice pg lg cg, .slice ph lh ch, .int .i64 r, .int .i64 z] 24) := ⟨_, rfl⟩
 have b0 : Bl w W := by rw [hW]; exact (Bl.refl _).alloc _
 have lt0 : w.heap.size < W.heap.size := by rw [hW]; simp
 have HC := hideP (show ∀ u, Bl W u → u.cell? ⟨w.heap.size, 0, none⟩ = some (.int .i64 n) ∧ u.cell? ⟨w.heap.size, 1, none⟩ = some (.slice px lx cx) ∧ u.cell? ⟨w.heap.size, 2, none⟩ = some (.slice pr lr cr) ∧ u.cell? ⟨w.heap.size, 3, none⟩ = some (.slice pf lf cf) ∧ u.cell? ⟨w.heap.size, 4, none⟩ = some (.slice pg lg cg) ∧ u.cell? ⟨w.heap.size, 5, none⟩ = some (.slice ph lh ch) ∧ u.cell? ⟨w.heap.size, 6, none⟩ = some (.int .i64 r) ∧ u.cell? ⟨w.heap.size, 7, none⟩ = some (.int .i64 z) from fun u hu => by
  refine ⟨?_, ?_, ?_, ?_, ?_, ?_, ?_, ?_⟩ <;> (rw [bl_cell hu _ _ lt0, hW]; simp [go_sem]))
 have FE := hideP (few9_any n r z px pr pf pg ph lx cx lr cr lf cf lg cg lh ch X Ro Fm Gm H W (hX.later b0) (hR.later b0) (hF.later b0) (hG.later b0) (hH.later b0) hlx.symm hlr.symm hlf.symm hlg.symm hlh.symm)
 have HW := hideP hW
 have HXR0 := hideP hX
 have HHR0 := hideP hH
 have HRR := hideP hR
 have HFR := hideP hF
 have HGR := hideP hG
 have hlx' := hideP hlx.symm
 have hlr' := hideP hlr.symm
 have hlf' := hideP hlf.symm
 have hlg' := hideP hlg.symm
 have hlh' := hideP hlh.symm
 clear hW hX hR hF hG hH hlx hlr hlf hlg hlh
 go_enter Tryz.func5, Tryz.ntmps5
 go_wp2_with fail
 rw [← HW.out]
 refine FE.out.mono ?_
 rintro e w1 ⟨b1, rfl, hb1, h1⟩
 clear FE
 cases b1 with
 | false =>
  go_wp2_with fail
  refine (AW.out _).mono ?_
  rintro e w99 ⟨rfl, h99⟩
  go_wp2
  go_ret
  exact ⟨rfl, (b0.trans h1).trans h99⟩
 | true =>
  obtain ⟨m, rfl, fw⟩ := hb1 rfl
  clear hb1
  obtain ⟨N, hN⟩ : ∃ N, N = m * m := ⟨_, rfl⟩
  obtain rfl : lx = m := by rw [← hlx'.out]; exact fw.x
  obtain ⟨m, rfl⟩ : ∃ m, m = lx := ⟨_, rfl⟩
  obtain rfl : lh = m := by rw [← hlh'.out]; exact fw.h
  obtain ⟨m, rfl⟩ : ∃ m, m = lh := ⟨_, rfl⟩
  obtain rfl : lr = N := by rw [← hlr'.out, hN]; exact fw.ro
  obtain ⟨N, rfl⟩ : ∃ N, N = lr := ⟨_, rfl⟩
  obtain rfl : lf = N := by rw [← hlf'.out, hN]; exact fw.f
  obtain ⟨N, rfl⟩ : ∃ N, N = lf := ⟨_, rfl⟩
  obtain rfl : lg = N := by rw [← hlg'.out, hN]; exact fw.g
  obtain ⟨N, rfl⟩ : ∃ N, N = lg := ⟨_, rfl⟩
  have m1 := fw.m1
  have m3 := fw.m3
  have hm4 : m ≤ 4 := by omega
  have hN9 : N ≤ 9 := by rw [hN]; exact Nat.mul_le_mul m3 m3
  have mN : m ≤ N := by rw [hN]; exact Nat.le_mul_of_pos_left m m1
  have HNN := hideP hN
  have HD := hideP (dim_le4 m1 hm4)
  have HFW := hideP fw
  have HXR := hideP (show Rq 1 cI w (.slice px m cx) (linJ m fun i => X.getD i 0) from by rw [← linJ_of (n := m) 0 X hlx'.out]; exact HXR0.out)
  have HHR := hideP (show Rq 1 cI w (.slice ph m ch) (linJ m fun i => H.getD i 0) from by rw [← linJ_of (n := m) 0 H hlh'.out]; exact HHR0.out)
  have b1w : Bl W w1 := h1
  clear hN fw HHR0
  obtain ⟨Rr, hRr⟩ : ∃ x : Fr, x = newR r 1 := ⟨_, rfl⟩
  obtain ⟨Zz, hZz⟩ : ∃ x : Fr, x = newR z 1 := ⟨_, rfl⟩
  have HEX := hideP (by have := ex10 m1 m3 (hlr'.out.trans HNN.out) hlh'.out HFW.out.sh HFW.out.sro HFW.out.r1 HFW.out.r5; rw [← hRr] at this; exact this)
  have HRr := hideP hRr
  have HZz := hideP hZz
  clear hRr hZz
  obtain ⟨c0, c1, c2, c3, c4, c5, c6, c7⟩ := HC.out w1 (b1w)
  have CLR := hideP (by have := ref7Clear_any pr N cr Ro m w1 HD.out (HRR.out.later (b0.trans b1w)) (hlr'.out.trans HNN.out) HNN.out; rw [← HNN.out] at this; exact this)
  go_wp2_with fail
  refine CLR.out.mono ?_
  rintro e w2 ⟨pl, cl, rfl, hl, h2⟩
  have b2w : Bl W w2 := b1w.trans h2
  have WH := hideP (whole10F_call m m pl N cl (mk m m (clrI (ofL m Ro))) w2 hl.q HD.out HNN.out (by rw [mk_len]; exact HNN.out.symm))
  clear c0 c1 c2 c3 c4 c5 c6 c7
  clear hl CLR
  obtain ⟨c0, c1, c2, c3, c4, c5, c6, c7⟩ := HC.out w2 (b2w)
  go_wp2_with fail
  refine WH.out.mono ?_
  rintro e w3 ⟨p3, c3', rfl, hx, h3⟩
  clear c0 c1 c2 c3 c4 c5 c6 c7
  obtain ⟨W3, hW3⟩ : ∃ W3, W3 = w3.alloc (.cells #[.int .i64 m, .int .i64 m, .slice p3 N c3'] 30) := ⟨_, rfl⟩
  have b3 : Bl w3 W3 := by rw [hW3]; exact (Bl.refl _).alloc _
  have k3 : MBox W3 w3.heap.size m m p3 N c3' := by rw [hW3]; exact MBox.new w3 _ _ _ _ _ _
  have HX3 := hideP (Mx.later hx b3)
  have b3w : Bl W W3 := b2w.trans (h3.trans b3)
  have HW3 := hideP hW3
  clear hW3 hx WH
  go_wp2_with fail
  rw [← HW3.out]
  refine (wpIn_wide (n := 8)).1 (region_q fm [some 39, some 40, some 41, some 42, some 43, some 38, some 44, some 45, some 6, none, some 7] (fun j => j == 7 || j == 10) 9 (by kernel_rfl) (by rfl)
     (fun j v u => match j with | 0 => v = .pointer (some ⟨w.heap.size, 1, none⟩) | 1 => v = .slice px m cx | 2 => ∃ q c, v = .slice q m c ∧ Rw 3 cellsF u (.slice q m c) (linJ m (fun i => wholeF (X.getD i 0))) | 3 => v = mV m m p3 N c3' | 4 => ∃ q c p' c', v = .tuple #[sJ q (m) c (m : Nat) (m : Nat) p' (N) c', .bool true] ∧ Rw 3 cellsF u (.slice q (m) c) (linJ (m) (fun i => wholeF (X.getD i 0))) ∧ Mx 3 cellsF u (m) (m) p' (N) c' (clrF (fun i k => wholeF (ofL m (mk m m (clrI (ofL m Ro))) i k))) | 5 => ∃ q c p' c', v = .tuple #[sJ q (m) c (m : Nat) (m : Nat) p' (N) c', .bool true] ∧ Rw 3 cellsF u (.slice q (m) c) (linJ (m) (fun i => wholeF (X.getD i 0))) ∧ Mx 3 cellsF u (m) (m) p' (N) c' (clrF (fun i k => wholeF (ofL m (mk m m (clrI (ofL m Ro))) i k))) | 6 => ∃ q c p' c', v = sJ q (m) c (m : Nat) (m : Nat) p' (N) c' ∧ Rw 3 cellsF u (.slice q (m) c) (linJ (m) (fun i => wholeF (X.getD i 0))) ∧ Mx 3 cellsF u (m) (m) p' (N) c' (clrF (fun i k => wholeF (ofL m (mk m m (clrI (ofL m Ro))) i k))) | 7 => v = .bool true | 8 => ∃ b, v = .pointer (some ⟨b, 0, none⟩) ∧ W3.heap.size ≤ b ∧ SBox u b none 0 0 0 0 none 0 0 ∧ NoB u b | 10 => v = .bool true | _ => False)
     (by
      intro j v u u' hb h
      split at h <;> first | exact h | (obtain ⟨b, e, h1, h2, h3⟩ := h; exact ⟨b, e, h1, h2.later hb, h3.later hb h2.lt⟩) | (obtain ⟨q, c, p', c', e, h1, h2⟩ := h; exact ⟨q, c, p', c', e, h1.later hb, Mx.later h2 hb⟩) | (obtain ⟨q, c, e, h1⟩ := h; exact ⟨q, c, e, h1.later hb⟩) | (obtain ⟨g, e, h1⟩ := h; exact ⟨g, e, h1.later hb⟩)) (fun vs u0 u => ∃ b q c p' c', vs 8 = .pointer (some ⟨b, 0, none⟩) ∧ W3.heap.size ≤ b ∧ SBox u b q (m) c (m : Nat) (m : Nat) p' (N) c' ∧ Rw 3 cellsF u (.slice q (m) c) (linJ (m) (fun i => wholeF (X.getD i 0))) ∧ Mx 3 cellsF u (m) (m) p' (N) c' (clrF (fun i k => wholeF (ofL m (mk m m (clrI (ofL m Ro))) i k))) ∧ Bl W3 u) ?step ?still ?store ?fin)
  case step =>
   intro j o t act u ho hdt hpu hsz hu hfr hin
   have hj : j < 11 := (Array.getElem?_eq_some_iff.1 ho).1
   obtain ⟨c0, c1, c2, c3, c4, c5, c6, c7⟩ := HC.out _ (b3w.trans hu)
   obtain ⟨y0, y1, y2, _, _, _, _⟩ := k3.later ((Bl.refl W3).trans hu)
   rcases (by omega : j = 0 ∨ j = 1 ∨ j = 2 ∨ j = 3 ∨ j = 4 ∨ j = 5 ∨ j = 6 ∨ j = 7 ∨ j = 8 ∨ j = 9 ∨ j = 10) with rfl | rfl | rfl | rfl | rfl | rfl | rfl | rfl | rfl | rfl | rfl
   ·obtain rfl := Option.some.inj (opXZRE ho)
    obtain rfl := Option.some.inj hdt
    have i1 : act.eval (.tmp (1 : Nat)) = .pointer (some ⟨w.heap.size, 0, none⟩) := hfr 1 (by decide)
    exact plain_wp (by intro c h; cases h) (fun _ _ => trivial) (by simp only [execOp, i1, evalC, evalF, evalG]; simp [go_sem, c1]) ⟨_, rfl, rfl, Bl.refl _⟩
   ·obtain rfl := Option.some.inj (opXZRE ho)
    obtain rfl := Option.some.inj hdt
    have i39 : (act.eval (.tmp (39 : Nat))) = .pointer (some ⟨w.heap.size, 1, none⟩) := hin ⟨0, .data⟩ (by simp) rfl 39 rfl
    exact plain_wp (by intro c h; cases h) (fun _ _ => trivial) (by simp only [execOp, i39, evalC, evalF, evalG]; simp [go_sem, c1]) ⟨_, rfl, rfl, Bl.refl _⟩
   ·obtain rfl := Option.some.inj (opXZRE ho)
    obtain rfl := Option.some.inj hdt
    have i40 : (act.eval (.tmp (40 : Nat))) = .slice px m cx := hin ⟨1, .data⟩ (by simp) rfl 40 rfl
    refine enter_wp 16 #[.slice px m cx] (by intro c h; cases h) (fun _ _ => trivial) (by simp only [execOp, evalC, evalF, evalG, resolve, i40, List.map_toArray, List.map_cons, List.map_nil]; simp [invoke, egW, Result.andThen, go_sem]) (by intro h; cases h) (callsIn_wide.2 (whole_linOF px m cx (fun i => X.getD i 0) u (HXR.out.later (b0.trans (b3w.trans hu))) (by omega))) ?_
    rintro e w' ⟨q, c, rfl, hR, _, hb⟩
    exact ⟨_, rfl, _, rfl, ⟨q, c, rfl, hR⟩, hb⟩
   ·obtain rfl := Option.some.inj (opXZRE ho)
    obtain rfl := Option.some.inj hdt
    have i4 : act.eval (.tmp (4 : Nat)) = .pointer (some ⟨w3.heap.size, 0, none⟩) := hfr 4 (by decide)
    exact plain_wp (by intro c h; cases h) (fun _ _ => trivial) (by simp only [execOp, i4, evalC, evalF, evalG]; simp [go_sem, y0, y1, y2]) ⟨_, rfl, rfl, Bl.refl _⟩
   ·obtain rfl := Option.some.inj (opXZRE ho)
    obtain rfl := Option.some.inj hdt
    have i41 : ∃ q c, (act.eval (.tmp (41 : Nat))) = .slice q m c ∧ Rw 3 cellsF u (.slice q m c) (linJ m (fun i => wholeF (X.getD i 0))) := hin ⟨2, .data⟩ (by simp) rfl 41 rfl
    have i42 : (act.eval (.tmp (42 : Nat))) = mV m m p3 N c3' := hin ⟨3, .data⟩ (by simp) rfl 42 rfl
    obtain ⟨q0, cc0, e0, hq⟩ := i41
    refine enter_wp 25 #[.slice q0 m cc0, mV m m p3 N c3'] (by intro c h; cases h) (fun _ _ => trivial) (by simp only [execOp, evalC, evalF, evalG, resolve, e0, i42, List.map_toArray, List.map_cons, List.map_nil]; simp [invoke, egNr, Result.andThen, go_sem]) (by intro h; cases h) (callsIn_wide.2 (rNewF m q0 cc0 (fun i => wholeF (X.getD i 0)) p3 N c3' (fun i k => wholeF (ofL m (mk m m (clrI (ofL m Ro))) i k)) u hq.q (HX3.out.later ((Bl.refl W3).trans hu)) hm4)) ?_
    rintro e w' ⟨q, c, p', c', rfl, ⟨hR, hM⟩, hb⟩
    exact ⟨_, rfl, _, rfl, ⟨q, c, p', c', rfl, hR, hM⟩, hb⟩
   ·obtain rfl := Option.some.inj (opXZRE ho)
    obtain rfl := Option.some.inj hdt
    have i43 : ∃ q c p' c', (act.eval (.tmp (43 : Nat))) = .tuple #[sJ q (m) c (m : Nat) (m : Nat) p' (N) c', .bool true] ∧ Rw 3 cellsF u (.slice q (m) c) (linJ (m) (fun i => wholeF (X.getD i 0))) ∧ Mx 3 cellsF u (m) (m) p' (N) c' (clrF (fun i k => wholeF (ofL m (mk m m (clrI (ofL m Ro))) i k))) := hin ⟨4, .data⟩ (by simp) rfl 43 rfl
    obtain ⟨q0, c0', p0, c0, e1, hq1, hq2⟩ := i43
    exact plain_wp (by intro c h; cases h) (fun _ _ => trivial) (by simp only [execOp, e1]; simp [go_sem]) ⟨_, rfl, ⟨q0, c0', p0, c0, rfl, hq1, hq2⟩, Bl.refl _⟩
   ·obtain rfl := Option.some.inj (opXZRE ho)
    obtain rfl := Option.some.inj hdt
    have i38 : ∃ q c p' c', (act.eval (.tmp (38 : Nat))) = .tuple #[sJ q (m) c (m : Nat) (m : Nat) p' (N) c', .bool true] ∧ Rw 3 cellsF u (.slice q (m) c) (linJ (m) (fun i => wholeF (X.getD i 0))) ∧ Mx 3 cellsF u (m) (m) p' (N) c' (clrF (fun i k => wholeF (ofL m (mk m m (clrI (ofL m Ro))) i k))) := hin ⟨5, .data⟩ (by simp) rfl 38 rfl
    obtain ⟨q0, c0', p0, c0, e1, hq1, hq2⟩ := i38
    exact plain_wp (by intro c h; cases h) (fun _ _ => trivial) (by simp only [execOp, e1]; simp [go_sem]) ⟨_, rfl, ⟨q0, c0', p0, c0, rfl, hq1, hq2⟩, Bl.refl _⟩
   ·cases hpu
   ·obtain rfl := Option.some.inj (opXZRE ho)
    obtain rfl := Option.some.inj hdt
    exact plain_wp (by intro c h; cases h) (fun _ _ => trivial) (w' := u.alloc (.cells #[.slice none 0 0, .int .i64 0, .int .i64 0, .slice none 0 0] 63)) (v := .pointer (some ⟨u.heap.size, 0, none⟩)) (by simp only [execOp]; simp [go_sem]) ⟨_, rfl, ⟨u.heap.size, rfl, hu.size, SBox.new u _ _ _ _ _ _ _ _ _, noB_newSF u _⟩, (Bl.refl _).alloc _⟩
   ·obtain rfl := Option.some.inj (opXZRE ho)
    cases hdt
   ·cases hpu
  case still =>
   intro j o t act u0 u ho hdt hpu hsz hu hfr hin
   have hj : j < 11 := (Array.getElem?_eq_some_iff.1 ho).1
   obtain ⟨c0, c1, c2, c3, c4, c5, c6, c7⟩ := HC.out _ (b3w.trans hu)
   obtain ⟨y0, y1, y2, _, _, _, _⟩ := k3.later ((Bl.refl W3).trans hu)
   rcases (by omega : j = 0 ∨ j = 1 ∨ j = 2 ∨ j = 3 ∨ j = 4 ∨ j = 5 ∨ j = 6 ∨ j = 7 ∨ j = 8 ∨ j = 9 ∨ j = 10) with rfl | rfl | rfl | rfl | rfl | rfl | rfl | rfl | rfl | rfl | rfl
   ·cases hpu
   ·cases hpu
   ·cases hpu
   ·cases hpu
   ·cases hpu
   ·cases hpu
   ·cases hpu
   ·obtain rfl := Option.some.inj (opXZRE ho)
    obtain rfl := Option.some.inj hdt
    have i38 : ∃ q c p' c', (act.eval (.tmp (38 : Nat))) = .tuple #[sJ q (m) c (m : Nat) (m : Nat) p' (N) c', .bool true] ∧ Rw 3 cellsF u0 (.slice q (m) c) (linJ (m) (fun i => wholeF (X.getD i 0))) ∧ Mx 3 cellsF u0 (m) (m) p' (N) c' (clrF (fun i k => wholeF (ofL m (mk m m (clrI (ofL m Ro))) i k))) := hin ⟨5, .data⟩ (by simp) rfl 38 rfl
    obtain ⟨q0, c0', p0, c0, e1, hq1, hq2⟩ := i38
    exact plain_wp (by intro c h; cases h) (fun _ _ => trivial) (by simp only [execOp, e1]; simp [go_sem]) ⟨_, rfl, rfl, rfl⟩
   ·cases hpu
   ·cases hpu
   ·obtain rfl := Option.some.inj (opXZRE ho)
    obtain rfl := Option.some.inj hdt
    have i45 : (act.eval (.tmp (45 : Nat))) = .bool true := hin ⟨7, .data⟩ (by simp) rfl 45 rfl
    exact plain_wp (by intro c h; cases h) (fun _ _ => trivial) (by simp only [execOp, i45, evalC, evalF, evalG]; simp [go_sem]) ⟨_, rfl, rfl, rfl⟩
  case store =>
   intro o act u vs ho hsz hu hfr hin
   obtain rfl := Option.some.inj (opXZRE ho)
   obtain ⟨i6, k6⟩ : act.eval (.tmp (6 : Nat)) = vs 8 ∧ (∃ b, (vs 8) = .pointer (some ⟨b, 0, none⟩) ∧ W3.heap.size ≤ b ∧ SBox u b none 0 0 0 0 none 0 0 ∧ NoB u b) := hin 8 6 rfl rfl
   obtain ⟨i44, k44⟩ : act.eval (.tmp (44 : Nat)) = vs 6 ∧ (∃ q c p' c', (vs 6) = sJ q (m) c (m : Nat) (m : Nat) p' (N) c' ∧ Rw 3 cellsF u (.slice q (m) c) (linJ (m) (fun i => wholeF (X.getD i 0))) ∧ Mx 3 cellsF u (m) (m) p' (N) c' (clrF (fun i k => wholeF (ofL m (mk m m (clrI (ofL m Ro))) i k)))) := hin 6 44 rfl rfl
   obtain ⟨b, e1, hb, bx, nb⟩ := k6
   obtain ⟨q0, c0', p0, c0, e2, hq1, hq2⟩ := k44
   rw [e1] at i6
   rw [e2] at i44
   obtain ⟨d0, d1, d2, d3, g0, g1, g2, g3, ltb⟩ := id bx
   exact skip_wp (by intro c h; cases h) (fun _ _ => trivial) (by simp only [execOp, i6, i44]; simp [go_sem, d0, d1, d2, d3, g0, g1, g2, g3]) ⟨rfl, b, q0, c0', p0, c0, e1, hb, bx.fill _ _ _ _ _ _ _ _, hq1.but (but4F _ _ _ _ _ _) (fun g hg => noB_rwF hq1 (m1) nb g hg), Mx.but hq2 (but4F _ _ _ _ _ _) (fun g hg => Ne.symm (noB_mx boolF hq2 nb g hg)), Bl.put4 hu hb _ _ _ _⟩
  case fin =>
   intro vs vb u0 u hu hin hps
   have a0 := hin 0 39 rfl
   have a1 := hin 1 40 rfl
   have a2 := hin 2 41 rfl
   have a3 := hin 3 42 rfl
   have a4 := hin 4 43 rfl
   have a5 := hin 5 38 rfl
   have a6 := hin 6 44 rfl
   have a7 := hin 7 45 rfl
   have a8 := hin 8 6 rfl
   have a10 := hin 10 7 rfl
   simp only [putL, Act.put, List.setIfInBounds_toArray, List.set_cons_zero, List.set_cons_succ, Nat.zero_add, Nat.reduceAdd, Nat.reduceBEq, Bool.or_false, Bool.or_true, Bool.false_or, Bool.true_or, Bool.false_eq_true, if_false, if_true, reduceIte, Nat.reduceEqDiff, beq_self_eq_true, Bool.or_self] at a0 a1 a2 a3 a4 a5 a6 a7 a8 a10 ⊢
   rw [if_pos (by decide)] at hps
   simp only [a0, a1, a3, a7, a10]
   obtain ⟨b5, q5, cq5, p5, cc5, eb, hb, k5, hR, hM, hbu⟩ := hps
   simp only [eb]
   obtain ⟨w5, rfl⟩ : ∃ w5, w5 = u := ⟨_, rfl⟩
   have HR5 := hideP hR
   have HM5 := hideP hM
   have b35 : Bl W3 w5 := hbu
   have b5w : Bl W w5 := b3w.trans b35
   clear a2 a4 a5 a6 a8 hu hin hR hM
   go_wp2_with fail
   refine (wpIn_wide (n := 8)).1 (region_q fm [some 47, some 48, some 49, some 50, some 51, some 46, some 52, some 53, some 8, none, some 9] (fun j => j == 7 || j == 10) 9 (by kernel_rfl) (by rfl)
      (fun j v u => match j with | 0 => v = .pointer (some ⟨w.heap.size, 1, none⟩) | 1 => v = .slice px m cx | 2 => ∃ q c, v = .slice q m c ∧ Rw 3 cellsF u (.slice q m c) (linJ m (fun i => wholeF (X.getD i 0))) | 3 => v = mV m m p3 N c3' | 4 => ∃ q c p' c', v = .tuple #[sJ q (m) c (m : Nat) (m : Nat) p' (N) c', .bool true] ∧ Rw 3 cellsF u (.slice q (m) c) (linJ (m) (fun i => wholeF (X.getD i 0))) ∧ Mx 3 cellsF u (m) (m) p' (N) c' (squareJ kdF m (fun i k => wholeF (ofL m (mk m m (clrI (ofL m Ro))) i k))) | 5 => ∃ q c p' c', v = .tuple #[sJ q (m) c (m : Nat) (m : Nat) p' (N) c', .bool true] ∧ Rw 3 cellsF u (.slice q (m) c) (linJ (m) (fun i => wholeF (X.getD i 0))) ∧ Mx 3 cellsF u (m) (m) p' (N) c' (squareJ kdF m (fun i k => wholeF (ofL m (mk m m (clrI (ofL m Ro))) i k))) | 6 => ∃ q c p' c', v = sJ q (m) c (m : Nat) (m : Nat) p' (N) c' ∧ Rw 3 cellsF u (.slice q (m) c) (linJ (m) (fun i => wholeF (X.getD i 0))) ∧ Mx 3 cellsF u (m) (m) p' (N) c' (squareJ kdF m (fun i k => wholeF (ofL m (mk m m (clrI (ofL m Ro))) i k))) | 7 => v = .bool true | 8 => ∃ b, v = .pointer (some ⟨b, 0, none⟩) ∧ w5.heap.size ≤ b ∧ SBox u b none 0 0 0 0 none 0 0 ∧ NoB u b | 10 => v = .bool true | _ => False)
      (by
       intro j v u u' hb h
       split at h <;> first | exact h | (obtain ⟨b, e, h1, h2, h3⟩ := h; exact ⟨b, e, h1, h2.later hb, h3.later hb h2.lt⟩) | (obtain ⟨q, c, p', c', e, h1, h2⟩ := h; exact ⟨q, c, p', c', e, h1.later hb, Mx.later h2 hb⟩) | (obtain ⟨q, c, e, h1⟩ := h; exact ⟨q, c, e, h1.later hb⟩) | (obtain ⟨g, e, h1⟩ := h; exact ⟨g, e, h1.later hb⟩)) (fun vs u0 u => ∃ b q c p' c', vs 8 = .pointer (some ⟨b, 0, none⟩) ∧ w5.heap.size ≤ b ∧ SBox u b q (m) c (m : Nat) (m : Nat) p' (N) c' ∧ Rw 3 cellsF u (.slice q (m) c) (linJ (m) (fun i => wholeF (X.getD i 0))) ∧ Mx 3 cellsF u (m) (m) p' (N) c' (squareJ kdF m (fun i k => wholeF (ofL m (mk m m (clrI (ofL m Ro))) i k))) ∧ Bl w5 u) ?step ?still ?store ?fin)
   case step =>
    intro j o t act u ho hdt hpu hsz hu hfr hin
    have hj : j < 11 := (Array.getElem?_eq_some_iff.1 ho).1
    obtain ⟨c0, c1, c2, c3, c4, c5, c6, c7⟩ := HC.out _ (b5w.trans hu)
    obtain ⟨y0, y1, y2, _, _, _, _⟩ := k3.later (b35.trans hu)
    rcases (by omega : j = 0 ∨ j = 1 ∨ j = 2 ∨ j = 3 ∨ j = 4 ∨ j = 5 ∨ j = 6 ∨ j = 7 ∨ j = 8 ∨ j = 9 ∨ j = 10) with rfl | rfl | rfl | rfl | rfl | rfl | rfl | rfl | rfl | rfl | rfl
    ·obtain rfl := Option.some.inj (opXZRE ho)
     obtain rfl := Option.some.inj hdt
     have i1 : act.eval (.tmp (1 : Nat)) = .pointer (some ⟨w.heap.size, 0, none⟩) := hfr 1 (by decide)
     exact plain_wp (by intro c h; cases h) (fun _ _ => trivial) (by simp only [execOp, i1, evalC, evalF, evalG]; simp [go_sem, c1]) ⟨_, rfl, rfl, Bl.refl _⟩
    ·obtain rfl := Option.some.inj (opXZRE ho)
     obtain rfl := Option.some.inj hdt
     have i47 : (act.eval (.tmp (47 : Nat))) = .pointer (some ⟨w.heap.size, 1, none⟩) := hin ⟨0, .data⟩ (by simp) rfl 47 rfl
     exact plain_wp (by intro c h; cases h) (fun _ _ => trivial) (by simp only [execOp, i47, evalC, evalF, evalG]; simp [go_sem, c1]) ⟨_, rfl, rfl, Bl.refl _⟩
    ·obtain rfl := Option.some.inj (opXZRE ho)
     obtain rfl := Option.some.inj hdt
     have i48 : (act.eval (.tmp (48 : Nat))) = .slice px m cx := hin ⟨1, .data⟩ (by simp) rfl 48 rfl
     refine enter_wp 16 #[.slice px m cx] (by intro c h; cases h) (fun _ _ => trivial) (by simp only [execOp, evalC, evalF, evalG, resolve, i48, List.map_toArray, List.map_cons, List.map_nil]; simp [invoke, egW, Result.andThen, go_sem]) (by intro h; cases h) (callsIn_wide.2 (whole_linOF px m cx (fun i => X.getD i 0) u (HXR.out.later (b0.trans (b5w.trans hu))) (by omega))) ?_
     rintro e w' ⟨q, c, rfl, hR, _, hb⟩
     exact ⟨_, rfl, _, rfl, ⟨q, c, rfl, hR⟩, hb⟩
    ·obtain rfl := Option.some.inj (opXZRE ho)
     obtain rfl := Option.some.inj hdt
     have i4 : act.eval (.tmp (4 : Nat)) = .pointer (some ⟨w3.heap.size, 0, none⟩) := hfr 4 (by decide)
     exact plain_wp (by intro c h; cases h) (fun _ _ => trivial) (by simp only [execOp, i4, evalC, evalF, evalG]; simp [go_sem, y0, y1, y2]) ⟨_, rfl, rfl, Bl.refl _⟩
    ·obtain rfl := Option.some.inj (opXZRE ho)
     obtain rfl := Option.some.inj hdt
     have i49 : ∃ q c, (act.eval (.tmp (49 : Nat))) = .slice q m c ∧ Rw 3 cellsF u (.slice q m c) (linJ m (fun i => wholeF (X.getD i 0))) := hin ⟨2, .data⟩ (by simp) rfl 49 rfl
     have i50 : (act.eval (.tmp (50 : Nat))) = mV m m p3 N c3' := hin ⟨3, .data⟩ (by simp) rfl 50 rfl
     obtain ⟨q0, cc0, e0, hq⟩ := i49
     refine enter_wp 26 #[.slice q0 m cc0, mV m m p3 N c3'] (by intro c h; cases h) (fun _ _ => trivial) (by simp only [execOp, evalC, evalF, evalG, resolve, e0, i50, List.map_toArray, List.map_cons, List.map_nil]; simp [invoke, egN, Result.andThen, go_sem]) (by intro h; cases h) (callsIn_wide.2 (jNewF m q0 cc0 (fun i => wholeF (X.getD i 0)) p3 N c3' (fun i k => wholeF (ofL m (mk m m (clrI (ofL m Ro))) i k)) u hq.q (HX3.out.later (b35.trans hu)) hm4)) ?_
     rintro e w' ⟨q, c, p', c', rfl, ⟨hR, hM⟩, hb⟩
     exact ⟨_, rfl, _, rfl, ⟨q, c, p', c', rfl, hR, hM⟩, hb⟩
    ·obtain rfl := Option.some.inj (opXZRE ho)
     obtain rfl := Option.some.inj hdt
     have i51 : ∃ q c p' c', (act.eval (.tmp (51 : Nat))) = .tuple #[sJ q (m) c (m : Nat) (m : Nat) p' (N) c', .bool true] ∧ Rw 3 cellsF u (.slice q (m) c) (linJ (m) (fun i => wholeF (X.getD i 0))) ∧ Mx 3 cellsF u (m) (m) p' (N) c' (squareJ kdF m (fun i k => wholeF (ofL m (mk m m (clrI (ofL m Ro))) i k))) := hin ⟨4, .data⟩ (by simp) rfl 51 rfl
     obtain ⟨q0, c0', p0, c0, e1, hq1, hq2⟩ := i51
     exact plain_wp (by intro c h; cases h) (fun _ _ => trivial) (by simp only [execOp, e1]; simp [go_sem]) ⟨_, rfl, ⟨q0, c0', p0, c0, rfl, hq1, hq2⟩, Bl.refl _⟩
    ·obtain rfl := Option.some.inj (opXZRE ho)
     obtain rfl := Option.some.inj hdt
     have i46 : ∃ q c p' c', (act.eval (.tmp (46 : Nat))) = .tuple #[sJ q (m) c (m : Nat) (m : Nat) p' (N) c', .bool true] ∧ Rw 3 cellsF u (.slice q (m) c) (linJ (m) (fun i => wholeF (X.getD i 0))) ∧ Mx 3 cellsF u (m) (m) p' (N) c' (squareJ kdF m (fun i k => wholeF (ofL m (mk m m (clrI (ofL m Ro))) i k))) := hin ⟨5, .data⟩ (by simp) rfl 46 rfl
     obtain ⟨q0, c0', p0, c0, e1, hq1, hq2⟩ := i46
     exact plain_wp (by intro c h; cases h) (fun _ _ => trivial) (by simp only [execOp, e1]; simp [go_sem]) ⟨_, rfl, ⟨q0, c0', p0, c0, rfl, hq1, hq2⟩, Bl.refl _⟩
    ·cases hpu
    ·obtain rfl := Option.some.inj (opXZRE ho)
     obtain rfl := Option.some.inj hdt
     exact plain_wp (by intro c h; cases h) (fun _ _ => trivial) (w' := u.alloc (.cells #[.slice none 0 0, .int .i64 0, .int .i64 0, .slice none 0 0] 36)) (v := .pointer (some ⟨u.heap.size, 0, none⟩)) (by simp only [execOp]; simp [go_sem]) ⟨_, rfl, ⟨u.heap.size, rfl, hu.size, SBox.new u _ _ _ _ _ _ _ _ _, noB_newSF u _⟩, (Bl.refl _).alloc _⟩
    ·obtain rfl := Option.some.inj (opXZRE ho)
     cases hdt
    ·cases hpu
   case still =>
    intro j o t act u0 u ho hdt hpu hsz hu hfr hin
    have hj : j < 11 := (Array.getElem?_eq_some_iff.1 ho).1
    obtain ⟨c0, c1, c2, c3, c4, c5, c6, c7⟩ := HC.out _ (b5w.trans hu)
    obtain ⟨y0, y1, y2, _, _, _, _⟩ := k3.later (b35.trans hu)
    rcases (by omega : j = 0 ∨ j = 1 ∨ j = 2 ∨ j = 3 ∨ j = 4 ∨ j = 5 ∨ j = 6 ∨ j = 7 ∨ j = 8 ∨ j = 9 ∨ j = 10) with rfl | rfl | rfl | rfl | rfl | rfl | rfl | rfl | rfl | rfl | rfl
    ·cases hpu
    ·cases hpu
    ·cases hpu
    ·cases hpu
    ·cases hpu
    ·cases hpu
    ·cases hpu
    ·obtain rfl := Option.some.inj (opXZRE ho)
     obtain rfl := Option.some.inj hdt
     have i46 : ∃ q c p' c', (act.eval (.tmp (46 : Nat))) = .tuple #[sJ q (m) c (m : Nat) (m : Nat) p' (N) c', .bool true] ∧ Rw 3 cellsF u0 (.slice q (m) c) (linJ (m) (fun i => wholeF (X.getD i 0))) ∧ Mx 3 cellsF u0 (m) (m) p' (N) c' (squareJ kdF m (fun i k => wholeF (ofL m (mk m m (clrI (ofL m Ro))) i k))) := hin ⟨5, .data⟩ (by simp) rfl 46 rfl
     obtain ⟨q0, c0', p0, c0, e1, hq1, hq2⟩ := i46
     exact plain_wp (by intro c h; cases h) (fun _ _ => trivial) (by simp only [execOp, e1]; simp [go_sem]) ⟨_, rfl, rfl, rfl⟩
    ·cases hpu
    ·cases hpu
    ·obtain rfl := Option.some.inj (opXZRE ho)
     obtain rfl := Option.some.inj hdt
     have i53 : (act.eval (.tmp (53 : Nat))) = .bool true := hin ⟨7, .data⟩ (by simp) rfl 53 rfl
     exact plain_wp (by intro c h; cases h) (fun _ _ => trivial) (by simp only [execOp, i53, evalC, evalF, evalG]; simp [go_sem]) ⟨_, rfl, rfl, rfl⟩
   case store =>
    intro o act u vs ho hsz hu hfr hin
    obtain rfl := Option.some.inj (opXZRE ho)
    obtain ⟨i8, k8⟩ : act.eval (.tmp (8 : Nat)) = vs 8 ∧ (∃ b, (vs 8) = .pointer (some ⟨b, 0, none⟩) ∧ w5.heap.size ≤ b ∧ SBox u b none 0 0 0 0 none 0 0 ∧ NoB u b) := hin 8 8 rfl rfl
    obtain ⟨i52, k52⟩ : act.eval (.tmp (52 : Nat)) = vs 6 ∧ (∃ q c p' c', (vs 6) = sJ q (m) c (m : Nat) (m : Nat) p' (N) c' ∧ Rw 3 cellsF u (.slice q (m) c) (linJ (m) (fun i => wholeF (X.getD i 0))) ∧ Mx 3 cellsF u (m) (m) p' (N) c' (squareJ kdF m (fun i k => wholeF (ofL m (mk m m (clrI (ofL m Ro))) i k)))) := hin 6 52 rfl rfl
    obtain ⟨b, e1, hb, bx, nb⟩ := k8
    obtain ⟨q0, c0', p0, c0, e2, hq1, hq2⟩ := k52
    rw [e1] at i8
    rw [e2] at i52
    obtain ⟨d0, d1, d2, d3, g0, g1, g2, g3, ltb⟩ := id bx
    exact skip_wp (by intro c h; cases h) (fun _ _ => trivial) (by simp only [execOp, i8, i52]; simp [go_sem, d0, d1, d2, d3, g0, g1, g2, g3]) ⟨rfl, b, q0, c0', p0, c0, e1, hb, bx.fill _ _ _ _ _ _ _ _, hq1.but (but4F _ _ _ _ _ _) (fun g hg => noB_rwF hq1 (m1) nb g hg), Mx.but hq2 (but4F _ _ _ _ _ _) (fun g hg => Ne.symm (noB_mx boolF hq2 nb g hg)), Bl.put4 hu hb _ _ _ _⟩
   case fin =>
    intro vs vb u0 u hu hin hps
    have a0 := hin 0 47 rfl
    have a1 := hin 1 48 rfl
    have a2 := hin 2 49 rfl
    have a3 := hin 3 50 rfl
    have a4 := hin 4 51 rfl
    have a5 := hin 5 46 rfl
    have a6 := hin 6 52 rfl
    have a7 := hin 7 53 rfl
    have a8 := hin 8 8 rfl
    have a10 := hin 10 9 rfl
    simp only [putL, Act.put, List.setIfInBounds_toArray, List.set_cons_zero, List.set_cons_succ, Nat.zero_add, Nat.reduceAdd, Nat.reduceBEq, Bool.or_false, Bool.or_true, Bool.false_or, Bool.true_or, Bool.false_eq_true, if_false, if_true, reduceIte, Nat.reduceEqDiff, beq_self_eq_true, Bool.or_self] at a0 a1 a2 a3 a4 a5 a6 a7 a8 a10 ⊢
    rw [if_pos (by decide)] at hps
    simp only [a0, a1, a3, a7, a10]
    obtain ⟨b6, q6, cq6, p6, cc6, eb, hb6, k6, hR, hM, hbu⟩ := hps
    simp only [eb]
    obtain ⟨w6, rfl⟩ : ∃ w6, w6 = u := ⟨_, rfl⟩
    have HR6 := hideP hR
    have HM6 := hideP hM
    have b56 : Bl w5 w6 := hbu
    have b6w : Bl W w6 := b5w.trans b56
    clear a2 a4 a5 a6 a8 hu hin hR hM
    have WHH := hideP (whole_linOF ph m ch (fun i => H.getD i 0) w6 (HHR.out.later (b0.trans b6w)) (by omega))
    obtain ⟨c0, c1, c2, c3, c4, c5, c6, c7⟩ := HC.out w6 (b6w)
    go_wp2_with fail
    refine WHH.out.mono ?_
    rintro e w7 ⟨qh, hc, rfl, hH, _, h67⟩
    clear c0 c1 c2 c3 c4 c5 c6 c7
    have HHH := hideP hH
    have b67 : Bl w6 w7 := h67
    have b57 : Bl w5 w7 := b56.trans b67
    have b7w : Bl W w7 := b6w.trans b67
    clear hH WHH
    go_wp2_with fail
    refine (wpIn_wide (n := 8)).1 (region_u (updF_ok (m) (N) (fun i => addR ((fun i => wholeF (X.getD i 0)) i) (mulR (divR ((runO kdF m (clrF (fun i k => wholeF (ofL m (mk m m (clrI (ofL m Ro))) i k))) (fun i => wholeF (H.getD i 0)) Rr m).e i) (runO kdF m (clrF (fun i k => wholeF (ofL m (mk m m (clrI (ofL m Ro))) i k))) (fun i => wholeF (H.getD i 0)) Rr m).a) (surpJ kdF m (fun i => wholeF (X.getD i 0)) (fun i => wholeF (H.getD i 0)) Zz))) ((runO kdF m (clrF (fun i k => wholeF (ofL m (mk m m (clrI (ofL m Ro))) i k))) (fun i => wholeF (H.getD i 0)) Rr m).s) (surpJ kdF m (fun i => wholeF (X.getD i 0)) (fun i => wholeF (H.getD i 0)) Zz) ((runO kdF m (clrF (fun i k => wholeF (ofL m (mk m m (clrI (ofL m Ro))) i k))) (fun i => wholeF (H.getD i 0)) Rr m).a)) fm [some 58, some 59, some 60, some 61, some 62, some 63, some 64, some 65, some 66, some 57, some 67, some 68, some 69, some 11, some 12, none, none, some 13] 8 (by kernel_rfl) (by rfl) 66 57 67 68 69 11 12 13 rfl
       (fun j v u => match j with | 0 => v = sJ q5 m cq5 m m p5 N cc5 | 1 => v = .slice qh m hc | 2 => v = .pointer (some ⟨w.heap.size, 6, none⟩) | 3 => v = .int .i64 r | 4 => v = frV Rr | 5 => v = .pointer (some ⟨w.heap.size, 7, none⟩) | 6 => v = .int .i64 z | 7 => v = frV Zz | _ => False)
       (by
        intro j v u u' hb h
        split at h <;> first | exact h | (obtain ⟨q, c, e, h1⟩ := h; exact ⟨q, c, e, h1.later hb⟩) | (obtain ⟨g, e, h1⟩ := h; exact ⟨g, e, h1.later hb⟩)) ?step ?call ?mv ?x0 ?x1 ?x2 ?la ?lb ?sa ?sb ?asg ?fin)
    case step =>
     intro j o t act u hjk ho hdt hsz hu hfr hin
     obtain ⟨c0, c1, c2, c3, c4, c5, c6, c7⟩ := HC.out _ (b7w.trans hu)
     obtain ⟨s0, s1, s2, s3, _, _, _, _, _⟩ := k5.later (b57.trans hu)
     rcases (by omega : j = 0 ∨ j = 1 ∨ j = 2 ∨ j = 3 ∨ j = 4 ∨ j = 5 ∨ j = 6 ∨ j = 7) with rfl | rfl | rfl | rfl | rfl | rfl | rfl | rfl
     ·obtain rfl := Option.some.inj (opXZRE ho)
      obtain rfl := Option.some.inj hdt
      have i6 : act.eval (.tmp (6 : Nat)) = .pointer (some ⟨b5, 0, none⟩) := hfr 6 (by decide)
      exact plain_wp (by intro c h; cases h) (fun _ _ => trivial) (by simp only [execOp, i6, evalC, evalF, evalG]; simp [go_sem, s0, s1, s2, s3]) ⟨_, rfl, rfl, Bl.refl _⟩
     ·obtain rfl := Option.some.inj (opXZRE ho)
      obtain rfl := Option.some.inj hdt
      have i10 : act.eval (.tmp (10 : Nat)) = .slice qh m hc := hfr 10 (by decide)
      exact plain_wp (by intro c h; cases h) (fun _ _ => trivial) (by simp only [execOp, i10, evalC, evalF, evalG]; simp [go_sem, c6]) ⟨_, rfl, rfl, Bl.refl _⟩
     ·obtain rfl := Option.some.inj (opXZRE ho)
      obtain rfl := Option.some.inj hdt
      have i1 : act.eval (.tmp (1 : Nat)) = .pointer (some ⟨w.heap.size, 0, none⟩) := hfr 1 (by decide)
      exact plain_wp (by intro c h; cases h) (fun _ _ => trivial) (by simp only [execOp, i1, evalC, evalF, evalG]; simp [go_sem, c6]) ⟨_, rfl, rfl, Bl.refl _⟩
     ·obtain rfl := Option.some.inj (opXZRE ho)
      obtain rfl := Option.some.inj hdt
      have i60 : (act.eval (.tmp (60 : Nat))) = .pointer (some ⟨w.heap.size, 6, none⟩) := hin ⟨2, .data⟩ (by simp) rfl 60 rfl
      exact plain_wp (by intro c h; cases h) (fun _ _ => trivial) (by simp only [execOp, i60, evalC, evalF, evalG]; simp [go_sem, c6]) ⟨_, rfl, rfl, Bl.refl _⟩
     ·obtain rfl := Option.some.inj (opXZRE ho)
      obtain rfl := Option.some.inj hdt
      have i61 : (act.eval (.tmp (61 : Nat))) = .int .i64 r := hin ⟨3, .data⟩ (by simp) rfl 61 rfl
      refine enter_wp 17 #[.int .i64 r, .int .i64 1] (by intro c h; cases h) (fun _ _ => trivial) (by simp only [execOp, evalC, evalF, evalG, resolve, i61, evalC, List.map_toArray, List.map_cons, List.map_nil]; simp [invoke, egQ, Result.andThen, go_sem]) (by intro h; cases h) (callsIn_wide.2 (new_any r 1 u)) ?_
      rintro e w' ⟨rfl, hb⟩
      exact ⟨_, rfl, _, rfl, show frV (newR r 1) = frV Rr from by rw [HRr.out], hb⟩
     ·obtain rfl := Option.some.inj (opXZRE ho)
      obtain rfl := Option.some.inj hdt
      have i1 : act.eval (.tmp (1 : Nat)) = .pointer (some ⟨w.heap.size, 0, none⟩) := hfr 1 (by decide)
      exact plain_wp (by intro c h; cases h) (fun _ _ => trivial) (by simp only [execOp, i1, evalC, evalF, evalG]; simp [go_sem, c7]) ⟨_, rfl, rfl, Bl.refl _⟩
     ·obtain rfl := Option.some.inj (opXZRE ho)
      obtain rfl := Option.some.inj hdt
      have i63 : (act.eval (.tmp (63 : Nat))) = .pointer (some ⟨w.heap.size, 7, none⟩) := hin ⟨5, .data⟩ (by simp) rfl 63 rfl
      exact plain_wp (by intro c h; cases h) (fun _ _ => trivial) (by simp only [execOp, i63, evalC, evalF, evalG]; simp [go_sem, c7]) ⟨_, rfl, rfl, Bl.refl _⟩
     ·obtain rfl := Option.some.inj (opXZRE ho)
      obtain rfl := Option.some.inj hdt
      have i64 : (act.eval (.tmp (64 : Nat))) = .int .i64 z := hin ⟨6, .data⟩ (by simp) rfl 64 rfl
      refine enter_wp 17 #[.int .i64 z, .int .i64 1] (by intro c h; cases h) (fun _ _ => trivial) (by simp only [execOp, evalC, evalF, evalG, resolve, i64, evalC, List.map_toArray, List.map_cons, List.map_nil]; simp [invoke, egQ, Result.andThen, go_sem]) (by intro h; cases h) (callsIn_wide.2 (new_any z 1 u)) ?_
      rintro e w' ⟨rfl, hb⟩
      exact ⟨_, rfl, _, rfl, show frV (newR z 1) = frV Zz from by rw [HZz.out], hb⟩
    case call =>
     intro o act u ho hsz hu hfr hin
     obtain ⟨c0, c1, c2, c3, c4, c5, c6, c7⟩ := HC.out _ (b7w.trans hu)
     obtain ⟨s0, s1, s2, s3, _, _, _, _, _⟩ := k5.later (b57.trans hu)
     simp only [List.getElem?_toArray, List.getElem?_cons_zero, List.getElem?_cons_succ, Option.some.injEq, Nat.reduceAdd] at ho
     subst ho
     have i58 : (act.eval (.tmp (58 : Nat))) = sJ q5 m cq5 m m p5 N cc5 := hin ⟨0, .data⟩ (by simp) rfl 58 rfl
     have i59 : (act.eval (.tmp (59 : Nat))) = .slice qh m hc := hin ⟨1, .data⟩ (by simp) rfl 59 rfl
     have i62 : (act.eval (.tmp (62 : Nat))) = frV Rr := hin ⟨4, .data⟩ (by simp) rfl 62 rfl
     have i65 : (act.eval (.tmp (65 : Nat))) = frV Zz := hin ⟨7, .data⟩ (by simp) rfl 65 rfl
     refine enter_wp 27 #[sJ q5 m cq5 m m p5 N cc5, .slice qh m hc, frV Rr, frV Zz] (by intro c h; cases h) (fun _ _ => trivial) (by simp only [execOp, evalC, evalF, evalG, resolve, i58, i59, i62, i65, List.map_toArray, List.map_cons, List.map_nil]; simp [invoke, egUr, Result.andThen, go_sem]) (by intro h; cases h) (callsIn_wide.2 (rUpdateF m N q5 cq5 (fun i => wholeF (X.getD i 0)) p5 cc5 (clrF (fun i k => wholeF (ofL m (mk m m (clrI (ofL m Ro))) i k))) qh hc (fun i => wholeF (H.getD i 0)) Rr Zz u (HR5.out.later (b57.trans hu)).q (HM5.out.later (b57.trans hu)) (HHH.out.later hu).q hm4)) ?_
     rintro e w' ⟨q, c, p', c', rfl, ⟨hR, hM, hF1, hF2⟩, hb⟩
     exact ⟨_, rfl, (q, c, p', c'), rfl, ⟨hR, hM⟩, hb, fun b hb' _ => ⟨fun g hg => by have := hF1 g hg; omega, fun g hg => by have := hF2 g hg; omega⟩⟩
    case mv =>
     intro o act u x ho hx
     simp only [List.getElem?_toArray, List.getElem?_cons_zero, List.getElem?_cons_succ, Option.some.injEq, Nat.reduceAdd] at ho
     subst ho
     exact plain_wp (by intro c h; cases h) (fun _ _ => trivial) (by simp only [execOp, hx]; simp [go_sem]) ⟨rfl, rfl⟩
    case x0 =>
     intro o act u x y z ho hx
     simp only [List.getElem?_toArray, List.getElem?_cons_zero, List.getElem?_cons_succ, Option.some.injEq, Nat.reduceAdd] at ho
     subst ho
     exact plain_wp (by intro c h; cases h) (fun _ _ => trivial) (by simp only [execOp, hx]; simp [go_sem]) ⟨rfl, rfl⟩
    case x1 =>
     intro o act u x y z ho hx
     simp only [List.getElem?_toArray, List.getElem?_cons_zero, List.getElem?_cons_succ, Option.some.injEq, Nat.reduceAdd] at ho
     subst ho
     exact plain_wp (by intro c h; cases h) (fun _ _ => trivial) (by simp only [execOp, hx]; simp [go_sem]) ⟨rfl, rfl⟩
    case x2 =>
     intro o act u x y z ho hx
     simp only [List.getElem?_toArray, List.getElem?_cons_zero, List.getElem?_cons_succ, Option.some.injEq, Nat.reduceAdd] at ho
     subst ho
     exact plain_wp (by intro c h; cases h) (fun _ _ => trivial) (by simp only [execOp, hx]; simp [go_sem]) ⟨rfl, rfl⟩
    case la =>
     intro o act u ho
     simp only [List.getElem?_toArray, List.getElem?_cons_zero, List.getElem?_cons_succ, Option.some.injEq, Nat.reduceAdd] at ho
     subst ho
     exact plain_wp (by intro c h; cases h) (fun _ _ => trivial) (w' := u.alloc (.cells #[.slice none 0 0, .int .i64 0, .int .i64 0, .slice none 0 0] 63)) (v := .pointer (some ⟨u.heap.size, 0, none⟩)) (by simp only [execOp]; simp [go_sem]) ⟨rfl, SBox.new u _ _ _ _ _ _ _ _ _, (Bl.refl _).alloc _, by simp⟩
    case lb =>
     intro o act u ho
     simp only [List.getElem?_toArray, List.getElem?_cons_zero, List.getElem?_cons_succ, Option.some.injEq, Nat.reduceAdd] at ho
     subst ho
     exact plain_wp (by intro c h; cases h) (fun _ _ => trivial) (w' := u.alloc (.cells #[.int .i64 0, .int .i64 0, .bool false, .int .i64 0, .int .i64 0, .bool false] 41)) (v := .pointer (some ⟨u.heap.size, 0, none⟩)) (by simp only [execOp]; simp [go_sem]) ⟨rfl, NBoxF.new u zeroR zeroR _, (Bl.refl _).alloc _, by simp⟩
    case sa =>
     intro o act u D b ho hA h0 hz hdat hoff hbl hb
     simp only [List.getElem?_toArray, List.getElem?_cons_zero, List.getElem?_cons_succ, Option.some.injEq, Nat.reduceAdd] at ho
     subst ho
     obtain ⟨q0, c0, p0, c1⟩ := D
     replace h0 : act.eval (.tmp 67) = sJ q0 (m) c0 (m) (m) p0 (N) c1 := h0
     obtain ⟨d0, d1, d2, d3, g0, g1, g2, g3, lt⟩ := (show SBox u b none 0 0 0 0 none 0 0 from hz)
     exact skip_wp (by intro c h; cases h) (fun _ _ => trivial) (by simp only [execOp, hA, h0]; simp [go_sem, d0, d1, d2, d3, g0, g1, g2, g3]) ⟨rfl, SBox.fill (show SBox u b none 0 0 0 0 none 0 0 from hz) _ _ _ _ _ _ _ _, ⟨hdat.1.but (but4F _ _ _ _ _ _) (fun g hg => hoff.1 g hg), hdat.2.but (but4F _ _ _ _ _ _) (fun g hg => hoff.2 g hg)⟩, Bl.put4 hbl hb _ _ _ _, fun b' h' => heap4F _ h' _ _ _ _, by simp⟩
    case sb =>
     intro o act u D b ho hA h0 hz hdat hoff hbl hb
     simp only [List.getElem?_toArray, List.getElem?_cons_zero, List.getElem?_cons_succ, Option.some.injEq, Nat.reduceAdd] at ho
     subst ho
     obtain ⟨q0, c0, p0, c1⟩ := D
     replace h0 : act.eval (.tmp 68) = newsVF (surpJ kdF m (fun i => wholeF (X.getD i 0)) (fun i => wholeF (H.getD i 0)) Zz) ((runO kdF m (clrF (fun i k => wholeF (ofL m (mk m m (clrI (ofL m Ro))) i k))) (fun i => wholeF (H.getD i 0)) Rr m).a) := h0
     obtain ⟨d0, d1, d2, d3, d4, d5, g0, g1, g2, g3, g4, g5, lt⟩ := (show NBoxF u b zeroR zeroR from hz)
     exact skip_wp (by intro c h; cases h) (fun _ _ => trivial) (by simp only [execOp, hA, h0]; simp [go_sem, d0, d1, d2, d3, d4, d5, g0, g1, g2, g3, g4, g5]) ⟨rfl, NBoxF.fill (show NBoxF u b zeroR zeroR from hz) _ _, ⟨hdat.1.but (butNF _ _ _ _) (fun g hg => hoff.1 g hg), hdat.2.but (butNF _ _ _ _) (fun g hg => hoff.2 g hg)⟩, blNF b hbl hb _ _, fun b' h' => heapNF _ h' _ _, by simp⟩
    case asg =>
     intro o act u x ho hx
     simp only [List.getElem?_toArray, List.getElem?_cons_zero, List.getElem?_cons_succ, Option.some.injEq, Nat.reduceAdd] at ho
     subst ho
     exact plain_wp (by intro c h; cases h) (fun _ _ => trivial) (by simp only [execOp, hx]; simp [go_sem]) ⟨rfl, rfl⟩
    case fin =>
     intro vs u D b8 n8' hu e9' e5' e6' hb1 hb2 hsa hsb hdat
     simp only [putL, Act.put, List.setIfInBounds_toArray, List.set_cons_zero, List.set_cons_succ, Nat.zero_add, Nat.reduceAdd] at e9' e5' e6' ⊢
     replace e9' := Eq.trans e9' (show _ = Value.bool true from rfl)
     simp only [e9', e5', e6']
     obtain ⟨q8, cq8, p8, c8⟩ := D
     obtain ⟨w8, rfl⟩ : ∃ w8, w8 = u := ⟨_, rfl⟩
     have k8 : SBox w8 b8 q8 m cq8 m m p8 N c8 := hsa
     have n8 : NBoxF w8 n8' (surpJ kdF m (fun i => wholeF (X.getD i 0)) (fun i => wholeF (H.getD i 0)) Zz) ((runO kdF m (clrF (fun i k => wholeF (ofL m (mk m m (clrI (ofL m Ro))) i k))) (fun i => wholeF (H.getD i 0)) Rr m).a) := hsb
     have HD8 : Rw 3 cellsF w8 (.slice q8 m cq8) (linJ m (fun i => addR ((fun i => wholeF (X.getD i 0)) i) (mulR (divR ((runO kdF m (clrF (fun i k => wholeF (ofL m (mk m m (clrI (ofL m Ro))) i k))) (fun i => wholeF (H.getD i 0)) Rr m).e i) (runO kdF m (clrF (fun i k => wholeF (ofL m (mk m m (clrI (ofL m Ro))) i k))) (fun i => wholeF (H.getD i 0)) Rr m).a) (surpJ kdF m (fun i => wholeF (X.getD i 0)) (fun i => wholeF (H.getD i 0)) Zz)))) ∧ Mx 3 cellsF w8 m m p8 N c8 ((runO kdF m (clrF (fun i k => wholeF (ofL m (mk m m (clrI (ofL m Ro))) i k))) (fun i => wholeF (H.getD i 0)) Rr m).s) := hdat
     rw [HEX.out.a] at n8
     have HR8 := hideP HD8.1
     have HM8 := hideP HD8.2
     have b78 : Bl w7 w8 := hu
     have b68 : Bl w6 w8 := b67.trans b78
     have b8w : Bl W w8 := b7w.trans b78
     clear hsa hsb hdat HD8
     go_wp2_with fail
     refine (wpIn_wide (n := 8)).1 (region_u (updF_ok (m) (N) (upXJ kdF m (fun i => wholeF (X.getD i 0)) (squareJ kdF m (fun i k => wholeF (ofL m (mk m m (clrI (ofL m Ro))) i k))) (fun i => wholeF (H.getD i 0)) Rr Zz) (upPJ kdF (fun i j => wholeF (unitI i j)) m (squareJ kdF m (fun i k => wholeF (ofL m (mk m m (clrI (ofL m Ro))) i k))) (fun i => wholeF (H.getD i 0)) Rr) (surpJ kdF m (fun i => wholeF (X.getD i 0)) (fun i => wholeF (H.getD i 0)) Zz) (spreadJ kdF m (squareJ kdF m (fun i k => wholeF (ofL m (mk m m (clrI (ofL m Ro))) i k))) (fun i => wholeF (H.getD i 0)) Rr)) fm [some 71, some 72, some 73, some 74, some 75, some 76, some 77, some 78, some 79, some 70, some 80, some 81, some 82, some 14, some 15, none, none, some 16] 8 (by kernel_rfl) (by rfl) 79 70 80 81 82 14 15 16 rfl
        (fun j v u => match j with | 0 => v = sJ q6 m cq6 m m p6 N cc6 | 1 => v = .slice qh m hc | 2 => v = .pointer (some ⟨w.heap.size, 6, none⟩) | 3 => v = .int .i64 r | 4 => v = frV Rr | 5 => v = .pointer (some ⟨w.heap.size, 7, none⟩) | 6 => v = .int .i64 z | 7 => v = frV Zz | _ => False)
        (by
         intro j v u u' hb h
         split at h <;> first | exact h | (obtain ⟨q, c, e, h1⟩ := h; exact ⟨q, c, e, h1.later hb⟩) | (obtain ⟨g, e, h1⟩ := h; exact ⟨g, e, h1.later hb⟩)) ?step ?call ?mv ?x0 ?x1 ?x2 ?la ?lb ?sa ?sb ?asg ?fin)
     case step =>
      intro j o t act u hjk ho hdt hsz hu hfr hin
      obtain ⟨c0, c1, c2, c3, c4, c5, c6, c7⟩ := HC.out _ (b8w.trans hu)
      obtain ⟨s0, s1, s2, s3, _, _, _, _, _⟩ := k6.later (b68.trans hu)
      rcases (by omega : j = 0 ∨ j = 1 ∨ j = 2 ∨ j = 3 ∨ j = 4 ∨ j = 5 ∨ j = 6 ∨ j = 7) with rfl | rfl | rfl | rfl | rfl | rfl | rfl | rfl
      ·obtain rfl := Option.some.inj (opXZRE ho)
       obtain rfl := Option.some.inj hdt
       have i8 : act.eval (.tmp (8 : Nat)) = .pointer (some ⟨b6, 0, none⟩) := hfr 8 (by decide)
       exact plain_wp (by intro c h; cases h) (fun _ _ => trivial) (by simp only [execOp, i8, evalC, evalF, evalG]; simp [go_sem, s0, s1, s2, s3]) ⟨_, rfl, rfl, Bl.refl _⟩
      ·obtain rfl := Option.some.inj (opXZRE ho)
       obtain rfl := Option.some.inj hdt
       have i10 : act.eval (.tmp (10 : Nat)) = .slice qh m hc := hfr 10 (by decide)
       exact plain_wp (by intro c h; cases h) (fun _ _ => trivial) (by simp only [execOp, i10, evalC, evalF, evalG]; simp [go_sem, c6]) ⟨_, rfl, rfl, Bl.refl _⟩
      ·obtain rfl := Option.some.inj (opXZRE ho)
       obtain rfl := Option.some.inj hdt
       have i1 : act.eval (.tmp (1 : Nat)) = .pointer (some ⟨w.heap.size, 0, none⟩) := hfr 1 (by decide)
       exact plain_wp (by intro c h; cases h) (fun _ _ => trivial) (by simp only [execOp, i1, evalC, evalF, evalG]; simp [go_sem, c6]) ⟨_, rfl, rfl, Bl.refl _⟩
      ·obtain rfl := Option.some.inj (opXZRE ho)
       obtain rfl := Option.some.inj hdt
       have i73 : (act.eval (.tmp (73 : Nat))) = .pointer (some ⟨w.heap.size, 6, none⟩) := hin ⟨2, .data⟩ (by simp) rfl 73 rfl
       exact plain_wp (by intro c h; cases h) (fun _ _ => trivial) (by simp only [execOp, i73, evalC, evalF, evalG]; simp [go_sem, c6]) ⟨_, rfl, rfl, Bl.refl _⟩
      ·obtain rfl := Option.some.inj (opXZRE ho)
       obtain rfl := Option.some.inj hdt
       have i74 : (act.eval (.tmp (74 : Nat))) = .int .i64 r := hin ⟨3, .data⟩ (by simp) rfl 74 rfl
       refine enter_wp 17 #[.int .i64 r, .int .i64 1] (by intro c h; cases h) (fun _ _ => trivial) (by simp only [execOp, evalC, evalF, evalG, resolve, i74, evalC, List.map_toArray, List.map_cons, List.map_nil]; simp [invoke, egQ, Result.andThen, go_sem]) (by intro h; cases h) (callsIn_wide.2 (new_any r 1 u)) ?_
       rintro e w' ⟨rfl, hb⟩
       exact ⟨_, rfl, _, rfl, show frV (newR r 1) = frV Rr from by rw [HRr.out], hb⟩
      ·obtain rfl := Option.some.inj (opXZRE ho)
       obtain rfl := Option.some.inj hdt
       have i1 : act.eval (.tmp (1 : Nat)) = .pointer (some ⟨w.heap.size, 0, none⟩) := hfr 1 (by decide)
       exact plain_wp (by intro c h; cases h) (fun _ _ => trivial) (by simp only [execOp, i1, evalC, evalF, evalG]; simp [go_sem, c7]) ⟨_, rfl, rfl, Bl.refl _⟩
      ·obtain rfl := Option.some.inj (opXZRE ho)
       obtain rfl := Option.some.inj hdt
       have i76 : (act.eval (.tmp (76 : Nat))) = .pointer (some ⟨w.heap.size, 7, none⟩) := hin ⟨5, .data⟩ (by simp) rfl 76 rfl
       exact plain_wp (by intro c h; cases h) (fun _ _ => trivial) (by simp only [execOp, i76, evalC, evalF, evalG]; simp [go_sem, c7]) ⟨_, rfl, rfl, Bl.refl _⟩
      ·obtain rfl := Option.some.inj (opXZRE ho)
       obtain rfl := Option.some.inj hdt
       have i77 : (act.eval (.tmp (77 : Nat))) = .int .i64 z := hin ⟨6, .data⟩ (by simp) rfl 77 rfl
       refine enter_wp 17 #[.int .i64 z, .int .i64 1] (by intro c h; cases h) (fun _ _ => trivial) (by simp only [execOp, evalC, evalF, evalG, resolve, i77, evalC, List.map_toArray, List.map_cons, List.map_nil]; simp [invoke, egQ, Result.andThen, go_sem]) (by intro h; cases h) (callsIn_wide.2 (new_any z 1 u)) ?_
       rintro e w' ⟨rfl, hb⟩
       exact ⟨_, rfl, _, rfl, show frV (newR z 1) = frV Zz from by rw [HZz.out], hb⟩
     case call =>
      intro o act u ho hsz hu hfr hin
      obtain ⟨c0, c1, c2, c3, c4, c5, c6, c7⟩ := HC.out _ (b8w.trans hu)
      obtain ⟨s0, s1, s2, s3, _, _, _, _, _⟩ := k6.later (b68.trans hu)
      simp only [List.getElem?_toArray, List.getElem?_cons_zero, List.getElem?_cons_succ, Option.some.injEq, Nat.reduceAdd] at ho
      subst ho
      have i71 : (act.eval (.tmp (71 : Nat))) = sJ q6 m cq6 m m p6 N cc6 := hin ⟨0, .data⟩ (by simp) rfl 71 rfl
      have i72 : (act.eval (.tmp (72 : Nat))) = .slice qh m hc := hin ⟨1, .data⟩ (by simp) rfl 72 rfl
      have i75 : (act.eval (.tmp (75 : Nat))) = frV Rr := hin ⟨4, .data⟩ (by simp) rfl 75 rfl
      have i78 : (act.eval (.tmp (78 : Nat))) = frV Zz := hin ⟨7, .data⟩ (by simp) rfl 78 rfl
      refine enter_wp 15 #[sJ q6 m cq6 m m p6 N cc6, .slice qh m hc, frV Rr, frV Zz] (by intro c h; cases h) (fun _ _ => trivial) (by simp only [execOp, evalC, evalF, evalG, resolve, i71, i72, i75, i78, List.map_toArray, List.map_cons, List.map_nil]; simp [invoke, egU, Result.andThen, go_sem]) (by intro h; cases h) (callsIn_wide.2 (jUpdateF m N q6 cq6 (fun i => wholeF (X.getD i 0)) p6 cc6 (squareJ kdF m (fun i k => wholeF (ofL m (mk m m (clrI (ofL m Ro))) i k))) qh hc (fun i => wholeF (H.getD i 0)) Rr Zz u (HR6.out.later (b68.trans hu)).q (HM6.out.later (b68.trans hu)) (HHH.out.later (b78.trans hu)).q hm4)) ?_
      rintro e w' ⟨q, c, p', c', rfl, ⟨hR, hM, hF1, hF2⟩, hb⟩
      exact ⟨_, rfl, (q, c, p', c'), rfl, ⟨hR, hM⟩, hb, fun b hb' _ => ⟨fun g hg => by have := hF1 g hg; omega, fun g hg => by have := hF2 g hg; omega⟩⟩
     case mv =>
      intro o act u x ho hx
      simp only [List.getElem?_toArray, List.getElem?_cons_zero, List.getElem?_cons_succ, Option.some.injEq, Nat.reduceAdd] at ho
      subst ho
      exact plain_wp (by intro c h; cases h) (fun _ _ => trivial) (by simp only [execOp, hx]; simp [go_sem]) ⟨rfl, rfl⟩
     case x0 =>
      intro o act u x y z ho hx
      simp only [List.getElem?_toArray, List.getElem?_cons_zero, List.getElem?_cons_succ, Option.some.injEq, Nat.reduceAdd] at ho
      subst ho
      exact plain_wp (by intro c h; cases h) (fun _ _ => trivial) (by simp only [execOp, hx]; simp [go_sem]) ⟨rfl, rfl⟩
     case x1 =>
      intro o act u x y z ho hx
      simp only [List.getElem?_toArray, List.getElem?_cons_zero, List.getElem?_cons_succ, Option.some.injEq, Nat.reduceAdd] at ho
      subst ho
      exact plain_wp (by intro c h; cases h) (fun _ _ => trivial) (by simp only [execOp, hx]; simp [go_sem]) ⟨rfl, rfl⟩
     case x2 =>
      intro o act u x y z ho hx
      simp only [List.getElem?_toArray, List.getElem?_cons_zero, List.getElem?_cons_succ, Option.some.injEq, Nat.reduceAdd] at ho
      subst ho
      exact plain_wp (by intro c h; cases h) (fun _ _ => trivial) (by simp only [execOp, hx]; simp [go_sem]) ⟨rfl, rfl⟩
     case la =>
      intro o act u ho
      simp only [List.getElem?_toArray, List.getElem?_cons_zero, List.getElem?_cons_succ, Option.some.injEq, Nat.reduceAdd] at ho
      subst ho
      exact plain_wp (by intro c h; cases h) (fun _ _ => trivial) (w' := u.alloc (.cells #[.slice none 0 0, .int .i64 0, .int .i64 0, .slice none 0 0] 36)) (v := .pointer (some ⟨u.heap.size, 0, none⟩)) (by simp only [execOp]; simp [go_sem]) ⟨rfl, SBox.new u _ _ _ _ _ _ _ _ _, (Bl.refl _).alloc _, by simp⟩
     case lb =>
      intro o act u ho
      simp only [List.getElem?_toArray, List.getElem?_cons_zero, List.getElem?_cons_succ, Option.some.injEq, Nat.reduceAdd] at ho
      subst ho
      exact plain_wp (by intro c h; cases h) (fun _ _ => trivial) (w' := u.alloc (.cells #[.int .i64 0, .int .i64 0, .bool false, .int .i64 0, .int .i64 0, .bool false] 41)) (v := .pointer (some ⟨u.heap.size, 0, none⟩)) (by simp only [execOp]; simp [go_sem]) ⟨rfl, NBoxF.new u zeroR zeroR _, (Bl.refl _).alloc _, by simp⟩
     case sa =>
      intro o act u D b ho hA h0 hz hdat hoff hbl hb
      simp only [List.getElem?_toArray, List.getElem?_cons_zero, List.getElem?_cons_succ, Option.some.injEq, Nat.reduceAdd] at ho
      subst ho
      obtain ⟨q0, c0, p0, c1⟩ := D
      replace h0 : act.eval (.tmp 80) = sJ q0 (m) c0 (m) (m) p0 (N) c1 := h0
      obtain ⟨d0, d1, d2, d3, g0, g1, g2, g3, lt⟩ := (show SBox u b none 0 0 0 0 none 0 0 from hz)
      exact skip_wp (by intro c h; cases h) (fun _ _ => trivial) (by simp only [execOp, hA, h0]; simp [go_sem, d0, d1, d2, d3, g0, g1, g2, g3]) ⟨rfl, SBox.fill (show SBox u b none 0 0 0 0 none 0 0 from hz) _ _ _ _ _ _ _ _, ⟨hdat.1.but (but4F _ _ _ _ _ _) (fun g hg => hoff.1 g hg), hdat.2.but (but4F _ _ _ _ _ _) (fun g hg => hoff.2 g hg)⟩, Bl.put4 hbl hb _ _ _ _, fun b' h' => heap4F _ h' _ _ _ _, by simp⟩
     case sb =>
      intro o act u D b ho hA h0 hz hdat hoff hbl hb
      simp only [List.getElem?_toArray, List.getElem?_cons_zero, List.getElem?_cons_succ, Option.some.injEq, Nat.reduceAdd] at ho
      subst ho
      obtain ⟨q0, c0, p0, c1⟩ := D
      replace h0 : act.eval (.tmp 81) = newsVF (surpJ kdF m (fun i => wholeF (X.getD i 0)) (fun i => wholeF (H.getD i 0)) Zz) (spreadJ kdF m (squareJ kdF m (fun i k => wholeF (ofL m (mk m m (clrI (ofL m Ro))) i k))) (fun i => wholeF (H.getD i 0)) Rr) := h0
      obtain ⟨d0, d1, d2, d3, d4, d5, g0, g1, g2, g3, g4, g5, lt⟩ := (show NBoxF u b zeroR zeroR from hz)
      exact skip_wp (by intro c h; cases h) (fun _ _ => trivial) (by simp only [execOp, hA, h0]; simp [go_sem, d0, d1, d2, d3, d4, d5, g0, g1, g2, g3, g4, g5]) ⟨rfl, NBoxF.fill (show NBoxF u b zeroR zeroR from hz) _ _, ⟨hdat.1.but (butNF _ _ _ _) (fun g hg => hoff.1 g hg), hdat.2.but (butNF _ _ _ _) (fun g hg => hoff.2 g hg)⟩, blNF b hbl hb _ _, fun b' h' => heapNF _ h' _ _, by simp⟩
     case asg =>
      intro o act u x ho hx
      simp only [List.getElem?_toArray, List.getElem?_cons_zero, List.getElem?_cons_succ, Option.some.injEq, Nat.reduceAdd] at ho
      subst ho
      exact plain_wp (by intro c h; cases h) (fun _ _ => trivial) (by simp only [execOp, hx]; simp [go_sem]) ⟨rfl, rfl⟩
     case fin =>
      intro vs u D b9 n9' hu e9' e5' e6' hb1 hb2 hsa hsb hdat
      simp only [putL, Act.put, List.setIfInBounds_toArray, List.set_cons_zero, List.set_cons_succ, Nat.zero_add, Nat.reduceAdd] at e9' e5' e6' ⊢
      replace e9' := Eq.trans e9' (show _ = Value.bool true from rfl)
      simp only [e9', e5', e6']
      obtain ⟨q9, cq9, p9, c9⟩ := D
      obtain ⟨w9, rfl⟩ : ∃ w9, w9 = u := ⟨_, rfl⟩
      have k9 : SBox w9 b9 q9 m cq9 m m p9 N c9 := hsa
      have n9 : NBoxF w9 n9' (surpJ kdF m (fun i => wholeF (X.getD i 0)) (fun i => wholeF (H.getD i 0)) Zz) (spreadJ kdF m (squareJ kdF m (fun i k => wholeF (ofL m (mk m m (clrI (ofL m Ro))) i k))) (fun i => wholeF (H.getD i 0)) Rr) := hsb
      have HD9 : Rw 3 cellsF w9 (.slice q9 m cq9) (linJ m (upXJ kdF m (fun i => wholeF (X.getD i 0)) (squareJ kdF m (fun i k => wholeF (ofL m (mk m m (clrI (ofL m Ro))) i k))) (fun i => wholeF (H.getD i 0)) Rr Zz)) ∧ Mx 3 cellsF w9 m m p9 N c9 (upPJ kdF (fun i j => wholeF (unitI i j)) m (squareJ kdF m (fun i k => wholeF (ofL m (mk m m (clrI (ofL m Ro))) i k))) (fun i => wholeF (H.getD i 0)) Rr) := hdat
      have b89 : Bl w8 w9 := hu
      have b9w : Bl W w9 := b8w.trans b89
      have B9 : Bl w w9 := b0.trans b9w
      obtain ⟨KQ, hKQ⟩ : ∃ f : Nat → Nat → Fr, f = upPJ kdF (fun i j => wholeF (unitI i j)) m (squareJ kdF m (fun i k => wholeF (ofL m (mk m m (clrI (ofL m Ro))) i k))) (fun i => wholeF (H.getD i 0)) Rr := ⟨_, rfl⟩
      obtain ⟨FQ, hFQ⟩ : ∃ f : Nat → Nat → Fr, f = squareJ kdF m (runO kdF m (clrF (fun i k => wholeF (ofL m (mk m m (clrI (ofL m Ro))) i k))) (fun i => wholeF (H.getD i 0)) Rr m).s := ⟨_, rfl⟩
      obtain ⟨XQ, hXQ⟩ : ∃ f : Nat → Fr, f = upXJ kdF m (fun i => wholeF (X.getD i 0)) (squareJ kdF m (fun i k => wholeF (ofL m (mk m m (clrI (ofL m Ro))) i k))) (fun i => wholeF (H.getD i 0)) Rr Zz := ⟨_, rfl⟩
      obtain ⟨E, hE⟩ : ∃ e : Fr, e = surpJ kdF m (fun i => wholeF (X.getD i 0)) (fun i => wholeF (H.getD i 0)) Zz := ⟨_, rfl⟩
      obtain ⟨A, hA⟩ : ∃ a : Fr, a = spreadJ kdF m (squareJ kdF m (fun i k => wholeF (ofL m (mk m m (clrI (ofL m Ro))) i k))) (fun i => wholeF (H.getD i 0)) Rr := ⟨_, rfl⟩
      have hX8 : linJ m (fun i => addR ((fun i => wholeF (X.getD i 0)) i) (mulR (divR ((runO kdF m (clrF (fun i k => wholeF (ofL m (mk m m (clrI (ofL m Ro))) i k))) (fun i => wholeF (H.getD i 0)) Rr m).e i) (runO kdF m (clrF (fun i k => wholeF (ofL m (mk m m (clrI (ofL m Ro))) i k))) (fun i => wholeF (H.getD i 0)) Rr m).a) (surpJ kdF m (fun i => wholeF (X.getD i 0)) (fun i => wholeF (H.getD i 0)) Zz))) = linJ m XQ := by
       rw [hXQ]
       refine linJ_congr fun i hi => ?_
       show addR _ (mulR (divR ((runO kdF m (clrF (fun i k => wholeF (ofL m (mk m m (clrI (ofL m Ro))) i k))) (fun i => wholeF (H.getD i 0)) Rr m).e i) (runO kdF m (clrF (fun i k => wholeF (ofL m (mk m m (clrI (ofL m Ro))) i k))) (fun i => wholeF (H.getD i 0)) Rr m).a) _) = addR _ (mulR (divR _ _) _)
       rw [HEX.out.a, HEX.out.e i hi]
      have HKEY := hideP (show ∀ i k, i < m → k < m → (FQ i k).bad = true ∨ (KQ i k).bad = true ∨ FQ i k = KQ i k from by rw [hFQ, hKQ]; exact HEX.out.p)
      have HR8' := HR8.out.later b89
      rw [hX8] at HR8'
      have HR9' := HD9.1
      have HM9' := HD9.2
      rw [← hXQ] at HR9'
      rw [← hKQ] at HM9'
      have CV := hideP (fun u (hu : Bl w9 u) => by have := rCoverF m q8 cq8 p8 N c8 _ u (HM8.out.later (b89.trans hu)) hm4; rw [← hFQ] at this; exact this)
      rw [← hE, ← hA] at n9 n8
      have NE := neq_news E A
      have NG := Tryz.nwGuard
      clear hsa hsb hdat HD9 hX8 hFQ hKQ hXQ hE hA
      obtain ⟨gX8, oX8, hgX8, _, CX8⟩ := rq_cellsLF HR8'.q (by omega)
      obtain ⟨gX9, oX9, hgX9, _, CX9⟩ := rq_cellsLF HR9'.q (by omega)
      obtain ⟨gM9, oM9, hgM9, _, CM9⟩ := rq_cellsLF HM9'.2.2 (by omega)
      have HGX8 := hideP hgX8
      have HGX9 := hideP hgX9
      have HGM9 := hideP hgM9
      have HCX8 := hideP CX8
      have HCX9 := hideP CX9
      have HCM9 := hideP CM9
      clear hgX8 hgX9 hgM9 CX8 CX9 CM9 HR8' HR9' HM9'
      obtain ⟨s0, s1, s2, s3, _, _, _, _, _⟩ := k8.later b89
      obtain ⟨v0, v1, v2, v3, _, _, _, _, _⟩ := id k9
      obtain ⟨m0, m1', m2, m3', m4, m5, _, _, _, _, _, _, _⟩ := n8.later b89
      obtain ⟨l0, l1, l2, l3, l4, l5, _, _, _, _, _, _, _⟩ := id n9
      obtain ⟨c0, c1, c2, c3, c4, c5, c6, c7⟩ := HC.out w9 (b9w)
      go_wp2_with fail
      clear s0 s1 s2 s3 v0 v1 v2 v3 c0 c1 c2 c3 c4 c5 c6 c7 m0 m1' m2 m3' m4 m5 l0 l1 l2 l3 l4 l5 NE NG
      go_loopw [120] (fun v wr => ∃ tt : Nat, v = .int .i64 tt ∧ tt ≤ m ∧ Bl w9 wr) (fun v _ => m - (intOf v).toNat)
      case atStart => exact ⟨0, rfl, Nat.zero_le _, Bl.refl _⟩
      case round =>
       obtain ⟨tt, rfl, ht, bl⟩ := hrel
       by_cases hlt2 : tt < m
       ·obtain ⟨x, hx⟩ : ∃ x, x = XQ tt := ⟨_, rfl⟩
        have A1 : (linJ m XQ)[tt]? = some x := by rw [hx]; exact linJ_get _ hlt2
        have CS := fun (z : Wl wr) => HCX8.out z.w (bl.trans z.bl) tt x A1
        have CT := fun (z : Wl wr) => HCX9.out z.w (bl.trans z.bl) tt x A1
        clear hx A1
        have x0 := fun z => (CS z).1
        have x1 := fun z => (CS z).2.1
        have x2 := fun z => (CS z).2.2
        have y0 := fun z => (CT z).1
        have y1 := fun z => (CT z).2.1
        have y2 := fun z => (CT z).2.2
        have s0 := fun z : Wl wr => (k8.later ((b89.trans bl).trans z.bl)).c0
        have t0 := fun z : Wl wr => (k9.later (bl.trans z.bl)).c0
        rw [HGX8.out] at s0
        rw [HGX9.out] at t0
        have nx := neq_selfV x
        obtain ⟨xn, xd, xb⟩ := x
        have wne := wl_ne wr
        clear CS CT
        dsimp only at x0 x1 x2 y0 y1 y2
        cases xb
        ·go_wp2_with fail
         refine wl_region wr (Bl.refl _) (by kernel_rfl) (by kernel_rfl) ?_
         repeat (go_big_quiet_step (first | fail))
         refine wpQuiet_nil ?_
         intro _ hw'
         obtain ⟨z, hw''⟩ := hw'
         subst hw''
         clear wne x0 x1 x2 y0 y1 y2 s0 t0
         obtain ⟨wz, hz⟩ := z
         dsimp only
         go_wp2
         go_roundw
         case rel => exact ⟨tt + 1, by simp, hlt2, bl.trans hz⟩
         case measure => simp [intOf]; omega
        ·clear nx
         go_wp2_with fail
         refine wl_region wr (Bl.refl _) (by kernel_rfl) (by kernel_rfl) ?_
         repeat (go_big_quiet_step (first | fail))
         refine wpQuiet_nil ?_
         intro _ hw'
         obtain ⟨z, hw''⟩ := hw'
         subst hw''
         clear wne x0 x1 x2 y0 y1 y2 s0 t0
         obtain ⟨wz, hz⟩ := z
         dsimp only
         go_wp2
         go_roundw
         case rel => exact ⟨tt + 1, by simp, hlt2, bl.trans hz⟩
         case measure => simp [intOf]; omega
       ·obtain rfl : m = tt := by omega
        obtain ⟨w10, rfl⟩ : ∃ w10, w10 = wr := ⟨_, rfl⟩
        have b910 : Bl w9 w10 := bl
        obtain ⟨s0, s1, s2, s3, _, _, _, _, _⟩ := k8.later (b89.trans b910)
        clear ht hlt2 bl
        go_wp2_with fail
        refine (CV.out w10 b910).mono ?_
        rintro e w11 ⟨p12, c12', rfl, hM12, h11⟩
        clear s0 s1 s2 s3
        obtain ⟨w12, hW12⟩ : ∃ W, W = w11.alloc (.cells #[.int .i64 m, .int .i64 m, .slice p12 N c12'] 30) := ⟨_, rfl⟩
        have b12 : Bl w11 w12 := by rw [hW12]; exact (Bl.refl _).alloc _
        have k12 : MBox w12 w11.heap.size m m p12 N c12' := by rw [hW12]; exact MBox.new w11 _ _ _ _ _ _
        have b9c : Bl w9 w12 := b910.trans (h11.trans b12)
        have B12 : Bl w w12 := B9.trans b9c
        obtain ⟨g12, o12, hg12, _, C12⟩ := rq_cellsLF (Mx.later hM12 b12).2.2 (by omega)
        have HG12 := hideP hg12
        have HC12 := hideP C12
        have HW12 := hideP hW12
        clear hW12 hM12 hg12 C12
        obtain ⟨t0, t1, t2, t3, _, _, _, _, _⟩ := k9.later b9c
        rw [HW12.out] at t0 t1 t2 t3
        go_wp2_with fail
        rw [← HW12.out]
        clear t0 t1 t2 t3
        go_loopw [159] (fun v wr => ∃ tt : Nat, v = .int .i64 tt ∧ tt ≤ N ∧ Bl w12 wr) (fun v _ => N - (intOf v).toNat)
        case atStart => exact ⟨0, rfl, Nat.zero_le _, Bl.refl _⟩
        case round =>
         obtain ⟨tt, rfl, ht, bl⟩ := hrel
         by_cases hlt2 : tt < N
         ·obtain ⟨A1, hi, hk⟩ := mk_at FQ (t := tt) (R := m) (C := m) (by rw [← HNN.out]; exact hlt2)
          obtain ⟨A2, _, _⟩ := mk_at KQ (t := tt) (R := m) (C := m) (by rw [← HNN.out]; exact hlt2)
          have KEY := HKEY.out _ _ hi hk
          obtain ⟨x, hx⟩ : ∃ x, x = FQ (tt / m) (tt % m) := ⟨_, rfl⟩
          obtain ⟨y, hy⟩ : ∃ x, x = KQ (tt / m) (tt % m) := ⟨_, rfl⟩
          rw [← hx, ← hy] at KEY
          rw [← hx] at A1
          rw [← hy] at A2
          have CS := fun (z : Wl wr) => HC12.out z.w (bl.trans z.bl) tt x A1
          have CT := fun (z : Wl wr) => HCM9.out z.w ((b9c.trans bl).trans z.bl) tt y A2
          clear hx hy hi hk A1 A2
          have x0 := fun z => (CS z).1
          have x1 := fun z => (CS z).2.1
          have x2 := fun z => (CS z).2.2
          have y0 := fun z => (CT z).1
          have y1 := fun z => (CT z).2.1
          have y2 := fun z => (CT z).2.2
          have s0 := fun z : Wl wr => (k12.later (bl.trans z.bl)).c2
          have t0 := fun z : Wl wr => (k9.later ((b9c.trans bl).trans z.bl)).c3
          have t3 := fun z : Wl wr => (k9.later ((b9c.trans bl).trans z.bl)).c0
          rw [HG12.out] at s0
          rw [HGM9.out] at t0
          have ng : ((tt : Int) ≥ (N : Int)) ↔ False := by simp; omega
          have nx := neq_selfV x
          obtain ⟨xn, xd, xb⟩ := x
          obtain ⟨yn, yd, yb⟩ := y
          have wne := wl_ne wr
          clear CS CT
          dsimp only at x0 x1 x2 y0 y1 y2 KEY
          cases xb
          ·rcases KEY with h | h | h
           ·cases h
           ·subst h
            clear nx
            go_wp2_with fail
            refine wl_region wr (Bl.refl _) (by kernel_rfl) (by kernel_rfl) ?_
            repeat (go_big_quiet_step (first | fail))
            refine wpQuiet_nil ?_
            intro _ hw'
            obtain ⟨z, hw''⟩ := hw'
            subst hw''
            clear wne x0 x1 x2 y0 y1 y2 s0 t0 t3
            obtain ⟨wz, hz⟩ := z
            dsimp only
            go_wp2
            go_roundw
            case rel => exact ⟨tt + 1, by simp, hlt2, bl.trans hz⟩
            case measure => simp [intOf]; omega
           ·cases h
            go_wp2_with fail
            refine wl_region wr (Bl.refl _) (by kernel_rfl) (by kernel_rfl) ?_
            repeat (go_big_quiet_step (first | fail))
            refine wpQuiet_nil ?_
            intro _ hw'
            obtain ⟨z, hw''⟩ := hw'
            subst hw''
            clear wne x0 x1 x2 y0 y1 y2 s0 t0 t3
            obtain ⟨wz, hz⟩ := z
            dsimp only
            go_wp2
            go_roundw
            case rel => exact ⟨tt + 1, by simp, hlt2, bl.trans hz⟩
            case measure => simp [intOf]; omega
          ·clear nx KEY
           go_wp2_with fail
           refine wl_region wr (Bl.refl _) (by kernel_rfl) (by kernel_rfl) ?_
           repeat (go_big_quiet_step (first | fail))
           refine wpQuiet_nil ?_
           intro _ hw'
           obtain ⟨z, hw''⟩ := hw'
           subst hw''
           clear wne x0 x1 x2 y0 y1 y2 s0 t0 t3
           obtain ⟨wz, hz⟩ := z
           dsimp only
           go_wp2
           go_roundw
           case rel => exact ⟨tt + 1, by simp, hlt2, bl.trans hz⟩
           case measure => simp [intOf]; omega
         ·obtain rfl : N = tt := by omega
          clear ht hlt2
          go_wp2_with fail
          refine (AW.out _).mono ?_
          rintro e w99 ⟨rfl, h99⟩
          go_wp2
          go_ret
          exact ⟨rfl, (B12.trans bl).trans h99⟩
end Go.Proofs.YtljmggemdkfbiaaGreat
namespace Go.Proofs.YtljmggemdkfbiaaGreat
open Go.ChangeShapes Go.WideShapes Go.ChangeAt Go.RowKit
set_option linter.unusedVariables false
theorem Tryz.cellsInt : Tryz.prog.cellsOf 3 = 1 := by kernel_rfl
theorem cell_block_lt {W : World} {b o : Nat} {v : Value} (h : W.cell? ⟨b, o, none⟩ = some v) : b < W.heap.size := by
 rcases Nat.lt_or_ge b W.heap.size with h' | h'
 ·exact h'
 ·have : W.heap[b]? = none := Array.getElem?_eq_none h'
  simp [World.cell?, this] at h
end Go.Proofs.YtljmggemdkfbiaaGreat
namespace Go.Proofs.YtljmggemdkfbiaaGreat
open Go.ChangeShapes Go.WideShapes Go.ChangeAt Go.RowKit Go.Joins
set_option linter.unusedVariables false
abbrev caseV (n : Int) (x root f g h : Value) (r z : Int) : Value := .agg #[.int .i64 n, x, root, f, g, h, .int .i64 r, .int .i64 z]
theorem array8 {α : Type} {cs : Array α} (h : cs.size = 8) : ∃ c0 c1 c2 c3 c4 c5 c6 c7, cs = #[c0, c1, c2, c3, c4, c5, c6, c7] := by
 obtain ⟨l⟩ := cs
 match l, h with
 | [c0, c1, c2, c3, c4, c5, c6, c7], _ => exact ⟨c0, c1, c2, c3, c4, c5, c6, c7, rfl⟩
theorem cellsCase : Tryz.prog.cellsOf 24 = 8 := by kernel_rfl
set_option maxRecDepth 1000000 in
theorem row_trod {H : Type} {enc : TypeId × Value → H} {W : World} {n : Nat} {v : Value} {y : DataW H × List MemPlace}
  (hf : DataW.trod enc Tryz.prog W 0 (fun _ => true) true n 22 [v] = some y) : ∃ ns : List Int, Rq 1 cI W v ns ∧ ∀ n ∈ ns, (Lit.int .i64 n).wf = true := by
 obtain ⟨d, p⟩ := y
 rcases open_ints Tryz.underlying22 Tryz.underlying3 Tryz.cellsInt hf with ⟨hcs, hx⟩ | ⟨a, len', cap', zs, hcs, _, hl, hm, hz, hx, hcell, hwz⟩
 ·simp at hcs
  subst hcs
  exact ⟨[], .inl ⟨none, 0, rfl, rfl, fun _ => rfl⟩, fun n hn => by simp at hn⟩
 ·simp at hcs
  subst hcs
  simp only [if_true] at hz
  refine ⟨zs.take len', ?_, fun n hn => hwz n (List.mem_of_mem_take hn)⟩
  by_cases h0 : len' = 0
  ·subst h0
   exact .inl ⟨some a, cap', rfl, by simp, nofun⟩
  ·have c0 := hcell 0 (by omega)
   obtain ⟨b, off, rfl, hc⟩ := ints_at hcell (by omega)
   have hb : b < W.heap.size := by
    have := hc 0 (by omega)
    exact cell_block_lt this
   have hll : (zs.take len').length = len' := by simp; omega
   refine .inr ⟨b, off, cap', by rw [hll], by omega, hb, fun j x hj k u hu => ?_⟩
   rcases k with _ | k
   ·simp at hu
    subst hu
    have hj2 := (List.getElem?_eq_some_iff.1 hj).1
    have := hc j (by omega)
    rw [List.getElem?_take] at hj
    split at hj
    ·have e : zs.getD j 0 = x := by simp [List.getD, hj]
     rw [e] at this
     simpa using this
    ·cases hj
   ·simp at hu
set_option maxRecDepth 1000000 in
theorem open_case {H : Type} {enc : TypeId × Value → H} {W : World} {b0 : Nat} {v : Value} {d : DataW H} {p : List MemPlace}
  (hv : Value.okWide Tryz.prog W .any b0 24 v) (h : DataW.Trod enc Tryz.prog W 0 (fun _ => true) true 24 v d p) :
  ∃ (n r z : Int) (x root f g h' : Value) (X Root F G H' : List Int), v = caseV n x root f g h' r z ∧ Rq 1 cI W x X ∧ Rq 1 cI W root Root ∧ Rq 1 cI W f F ∧ Rq 1 cI W g G ∧ Rq 1 cI W h' H' := by
 obtain ⟨cs, rfl, hsz⟩ := okWide_struct Tryz.underlying24 hv
 obtain ⟨c0, c1, c2, c3, c4, c5, c6, c7, rfl⟩ := array8 (hsz.trans cellsCase)
 obtain ⟨fuel, hf⟩ := h
 obtain ⟨xs, n, _, hxx, hl, hlen, hall⟩ := DataW.trod_struct Tryz.underlying24 hf
 match xs, hlen with
 | [y0, y1, y2, y3, y4, y5, y6, y7], _ =>
  have h0 := hall 0 _ rfl
  have h1 := hall 1 _ rfl
  have h2 := hall 2 _ rfl
  have h3 := hall 3 _ rfl
  have h4 := hall 4 _ rfl
  have h5 := hall 5 _ rfl
  have h6 := hall 6 _ rfl
  have h7 := hall 7 _ rfl
  simp only [Value.cells] at h0 h1 h2 h3 h4 h5 h6 h7
  simp at h0 h1 h2 h3 h4 h5 h6 h7
  have k1 : Tryz.prog.cellsOf 3 = 1 := by kernel_rfl
  have k2 : Tryz.prog.cellsOf 22 = 1 := by kernel_rfl
  rw [k1] at h0 h6 h7
  rw [k2] at h1 h2 h3 h4 h5
  simp only [List.take_succ_cons, List.take_zero] at h0 h1 h2 h3 h4 h5 h6 h7
  obtain ⟨n0, e0, _, _⟩ := DataW.trod_int Tryz.underlying3 h0
  obtain ⟨r0, e6, _, _⟩ := DataW.trod_int Tryz.underlying3 h6
  obtain ⟨z0, e7, _, _⟩ := DataW.trod_int Tryz.underlying3 h7
  obtain ⟨X, hX, _⟩ := row_trod h1
  obtain ⟨Root, hRoot, _⟩ := row_trod h2
  obtain ⟨F, hF, _⟩ := row_trod h3
  obtain ⟨G, hG, _⟩ := row_trod h4
  obtain ⟨H', hH, _⟩ := row_trod h5
  simp only [List.cons.injEq, and_true] at e0 e6 e7
  subst e0 e6 e7
  exact ⟨n0, r0, z0, c1, c2, c3, c4, c5, X, Root, F, G, H', rfl, hX, hRoot, hF, hG, hH⟩
end Go.Proofs.YtljmggemdkfbiaaGreat
namespace Go.Proofs.YtljmggemdkfbiaaGreat
open Go.ChangeShapes Go.WideShapes Go.ChangeAt Go.RowKit
set_option linter.unusedVariables false
theorem own_RootExact : ownKnob Tryz.prog.godebug = none := by kernel_rfl
theorem laid_RootExact : laidOutB Tryz.prog = true := by kernel_rfl
set_option maxRecDepth 100000 in
theorem lifted_RootExact (os : Os) (started : os.Started) (H : Type) (enc : TypeId × Value → H) :
  ReturnsInHanded {} Tryz.checked os 5 .any (Rows.rootExactSpec.pre6 enc Tryz.prog Tryz.f5 Rows.rootExactRow.domain false) (Rows.rootExactSpec.post enc Tryz.prog Tryz.f5 false true false false) := by
 refine returnsInHanded_of_change (C := Tryz.checked) own_RootExact started (by kernel_rfl) Tryz.func5
  (ChangeSpec.witness6 (enc := enc) (C := Tryz.checked) false ⟨#[], #[.agg #[.int .i64 0, .slice none 0 0, .slice none 0 0, .slice none 0 0, .slice none 0 0, .slice none 0 0, .int .i64 0, .int .i64 0]], []⟩ 8 (by kernel_rfl) (by kernel_rfl) (by kernel_rfl) (by kernel_rfl)) ?_
 intro W base args ds gs before hval0 hW hcnd _
 have hval : ∀ (j : Nat) t v, Tryz.f5.params[j]? = some t → args[j]? = some v → Value.okWide Tryz.prog W .any base t v := hval0
 have hW' := hW
 obtain ⟨p, q, hA0, hV, rfl, hfz, hnd⟩ := hW
 have hA : DataW.TrodAll enc Tryz.prog W 0 (fun _ => true) true Tryz.f5.params.toList args.toList ds p := hA0
 rw [Tryz.params5] at hA hval
 obtain ⟨v0, vs0, d0, ds0, p0, q0, hargs, rfl, rfl, h0, r0⟩ := trodAll_cons hA
 obtain ⟨rfl, rfl, rfl⟩ := trodAll_nil r0
 obtain rfl : args = #[v0] := by cases args; simp_all
 obtain ⟨rfl, rfl⟩ := trodVars_none hV
 have hltA := fun x hx => hW'.lt x hx
 obtain ⟨n0, r0x, z0, x0, o0, f0, g0, k0, X0, O0, F0, G0, K0, e0, R0a, R0b, R0c, R0d, R0e⟩ := open_case (hval 0 24 v0 rfl rfl) h0
 subst e0
 clear hA0 hval0
 refine (walk_RootExact n0 r0x z0 x0 o0 f0 g0 k0 X0 O0 F0 G0 K0 W R0a R0b R0c R0d R0e).mono fun e W' ⟨he, bel⟩ => ?_
 subst he
 exact ⟨_, rfl, _, _, _, [], _, [], hW', trodAll_mk1 (shut_bool Tryz.underlying4 _), (trodAll_cons_mk (Below.trod laid_RootExact (by kernel_rfl) (of_decide_eq_true (by kernel_rfl)) h0 bel (fun x hx => by have := hltA x (by simp [hx]); simpa using this)) trodAll_mk0), rfl, Below.frame bel _, fun h => by cases h⟩
theorem proved_RootExact : Rows.RootExactSaid :=
 OpenClaim.holds_of_wide 5 Tryz.f5 rfl rfl rfl rfl rfl rfl rfl ⟨rfl, rfl, rfl, rfl, rfl⟩ rfl rfl rfl rfl rfl (by kernel_rfl) Tryz.func5 (by kernel_rfl)
  (of_decide_eq_true (by kernel_rfl)) (by unfold Func.isWrapper; first | (rw [if_pos (by decide +kernel)]; kernel_rfl) | (rw [if_neg (by decide +kernel)]; exact ⟨rfl, rfl⟩))
  (fun os started H enc _ => lifted_RootExact os started H enc)
#print axioms proved_RootExact
end Go.Proofs.YtljmggemdkfbiaaGreat
