/- Contract of slices.Backward over a row, of fractions: an iterator from the last number to the first one (layer 10). Written by genRo.py. -/
import Derived.Test.YtljmggemdkfbiaaGreatXC
import Derived.Test.YtljmggemdkfbiaaGreatXD
import Derived.Test.YtljmggemdkfbiaaGreatXA
import Derived.Test.YtljmggemdkfbiaaGreatXB
namespace Go.Proofs.YtljmggemdkfbiaaGreat
open Go.RowKit
set_option linter.unusedSimpArgs false
set_option linter.unusedVariables false
theorem opXE {α : Type} {l : List α} {k : Nat} {o : α} (h : l.toArray[k]? = some o) : l[k]? = some o := by rwa [List.getElem?_toArray] at h
theorem dot_it6 {A B : Int} {xs ys : List Int} (h : Sml A xs) (k : Sml B ys) (hA : 0 ≤ A ∧ A ≤ 1073741824) (hB : 0 ≤ B ∧ B ≤ 1073741824) (hl : xs.length ≤ 16) (hAB : A * B ≤ 67108864) : dotF (xs.map itF) (ys.map itF) = itF (dotI xs ys) := by
 unfold dotF dotI
 have hp : 0 ≤ A * B := Int.mul_nonneg hA.1 hB.1
 rw [muls_it (by omega) (by omega) (by omega) xs ys h k]
 refine sum_it (B := A * B) _ (muls_sml h k) hp ?_
 have hln : (List.zipWith (· * ·) xs ys).length ≤ 16 := by simp; omega
 have := Int.mul_le_mul_of_nonneg_left (show ((List.zipWith (· * ·) xs ys).length : Int) ≤ 16 by omega) hp
 omega
theorem Mx.congr {α : Type} {s : Nat} {c : α → List Value} {w : World} {R C : Nat} {p : Option Addr} {n cap : Nat} {f g : Nat → Nat → α} (h : Mx s c w R C p n cap f) (e : ∀ i k, i < R → k < C → f i k = g i k) : Mx s c w R C p n cap g :=
 ⟨h.1, h.2.1, by rw [← mk_congr e]; exact h.2.2⟩
theorem rq_one9 (u : World) (x : Int) (t : TypeId) : Rq 1 cI (u.alloc (.cells #[.int .i64 x] t)) (.slice (some ⟨u.heap.size, 0, none⟩) 1 1) (linJ 1 fun _ => x) := by
 refine .inr ⟨u.heap.size, 0, 1, rfl, Nat.le_refl _, by simp, fun j v hj k s hu => ?_⟩
 rcases j with _ | j
 ·simp [linJ] at hj
  subst hj
  rcases k with _ | k
  ·simp at hu
   subst hu
   simp [go_sem]
  ·simp at hu
 ·simp [linJ] at hj
theorem whole11 (w : World) (t : TypeId) (b0 : Nat) (hb0 : b0 = w.heap.size) : Calls Tryz.prog 12 #[.int .i64 1, .int .i64 1, .slice (some ⟨b0, 0, none⟩) 1 1] (w.alloc (.cells #[.int .i64 1] t))
  fun e w' => ∃ p' cap', e = .returned (.tuple #[mV 1 1 p' 1 cap', .bool true]) ∧ Mx 3 cellsF w' 1 1 p' 1 cap' (fun _ _ => itF 1) ∧ Bl (w.alloc (.cells #[.int .i64 1] t)) w' := by
 subst hb0
 refine (mWholeF 1 1 _ 1 1 [1] _ (rq_one9 w 1 t) (by decide) rfl).mono ?_
 rintro e w' ⟨p', cap', rfl, hr, hb⟩
 exact ⟨p', cap', rfl, ⟨⟨by omega, by omega, by omega, by omega⟩, rfl, hr.q⟩, hb⟩
theorem rw_cells9F {w : World} {p : Option Addr} {n cap : Nat} {x : Nat → Fr} (h : Rw 3 cellsF w (.slice p n cap) (linJ n x)) (h1 : 1 ≤ n) : ∃ g o, p = some ⟨g, o, none⟩ ∧ ∀ u, Bl w u → ∀ k, k < n → u.cell? ⟨g, o + k * 3, none⟩ = some (.int .i64 (x k).n) ∧ u.cell? ⟨g, o + k * 3 + 1, none⟩ = some (.int .i64 (x k).d) ∧ u.cell? ⟨g, o + k * 3 + 2, none⟩ = some (.bool (x k).bad) := by
 rcases h with ⟨_, e⟩ | ⟨g, o, c, e, _, hlt, hx⟩
 ·have := congrArg List.length e
  rw [linJ_len] at this
  simp at this
  omega
 ·simp only [Value.slice.injEq] at e
  refine ⟨g, o, e.1, fun u hu k hk => ?_⟩
  have H := fun i v (hi : (cellsF (x k))[i]? = some v) => (bl_cell hu _ _ hlt).trans (hx k _ (linJ_get x hk) i v hi)
  exact ⟨H 0 _ rfl, H 1 _ rfl, H 2 _ rfl⟩
structure StO (α : Type) where
 s : Nat → Nat → α
 e : Nat → α
 a : α
def bO {α : Type} (K : Kd α) (a w : α) : α := K.add a (K.mul w w)
def dO {α : Type} (K : Kd α) (a w : α) : α := K.root (K.div a (bO K a w))
def cO {α : Type} (K : Kd α) (a w : α) : α := K.div w (K.root (K.mul a (bO K a w)))
def sO {α : Type} (K : Kd α) (a w x e : α) : α := K.sub (K.mul x (dO K a w)) (K.mul e (cO K a w))
def partS {α : Type} (K : Kd α) (j i : Nat) (w : α) (t : StO α) (r k : Nat) : α := if k = j ∧ j ≤ r ∧ r < i then sO K t.a w (t.s r j) (t.e r) else t.s r k
def partE {α : Type} (K : Kd α) (j i : Nat) (w : α) (t : StO α) (r : Nat) : α := if j ≤ r ∧ r < i then K.add (t.e r) (K.mul (t.s r j) w) else t.e r
def stepO {α : Type} (K : Kd α) (n j : Nat) (w : α) (t : StO α) : StO α := ⟨partS K j n w t, partE K j n w t, bO K t.a w⟩
def wO {α : Type} (K : Kd α) (n : Nat) (s : Nat → Nat → α) (h : Nat → α) (j : Nat) : α := appJ K n (fun i k => s k i) h j
def runO {α : Type} (K : Kd α) (n : Nat) (s : Nat → Nat → α) (h : Nat → α) (r : α) : Nat → StO α
 | 0 => ⟨s, fun _ => K.z, r⟩
 | t + 1 => stepO K n (n - 1 - t) (wO K n s h (n - 1 - t)) (runO K n s h r t)
theorem partS_zero {α : Type} (K : Kd α) (j : Nat) (w : α) (t : StO α) : partS K j j w t = t.s := by
 funext r k
 unfold partS
 rw [if_neg (by omega)]
theorem partE_zero {α : Type} (K : Kd α) (j : Nat) (w : α) (t : StO α) : partE K j j w t = t.e := by
 funext r
 unfold partE
 rw [if_neg (by omega)]
theorem partS_next {α : Type} (K : Kd α) {j i : Nat} (hi : j ≤ i) (w : α) (t : StO α) : partS K j (i + 1) w t = putM (partS K j i w t) i j (sO K t.a w (t.s i j) (t.e i)) := by
 funext r k
 unfold putM partS
 by_cases h : r = i ∧ k = j
 ·obtain ⟨rfl, rfl⟩ := h
  rw [if_pos ⟨rfl, hi, by omega⟩, if_pos ⟨rfl, rfl⟩]
 ·rw [if_neg h]
  by_cases h2 : k = j ∧ j ≤ r ∧ r < i
  ·rw [if_pos h2, if_pos ⟨h2.1, h2.2.1, by omega⟩]
  ·rw [if_neg h2, if_neg (by omega)]
theorem partE_next {α : Type} (K : Kd α) {j i : Nat} (hi : j ≤ i) (w : α) (t : StO α) (r : Nat) : partE K j (i + 1) w t r = if r = i then K.add (t.e i) (K.mul (t.s i j) w) else partE K j i w t r := by
 unfold partE
 by_cases h : r = i
 ·subst h
  rw [if_pos rfl, if_pos ⟨hi, by omega⟩]
 ·rw [if_neg h]
  by_cases h2 : j ≤ r ∧ r < i
  ·rw [if_pos h2, if_pos ⟨h2.1, by omega⟩]
  ·rw [if_neg h2, if_neg (by omega)]
theorem partS_at {α : Type} (K : Kd α) (j i : Nat) (w : α) (t : StO α) : partS K j i w t i j = t.s i j := by
 unfold partS
 rw [if_neg (by omega)]
theorem partE_at {α : Type} (K : Kd α) (j i : Nat) (w : α) (t : StO α) : partE K j i w t i = t.e i := by
 unfold partE
 rw [if_neg (by omega)]
theorem But.put {S : Nat → Prop} {w b c : World} {r : Nat} (h : But S w b) (k : But (fun i => i = r) b c) (hr : w.heap.size ≤ r) : But S w c :=
 have q : But (fun i => S i ∨ i = r) w c := (h.mono fun _ => .inl).trans (k.mono fun _ => .inr)
 ⟨q.os, q.tape, q.output, q.size, fun i hi hs => q.block i hi (by rintro (h | h); exact hs h; omega)⟩
def foldO {α : Type} (K : Kd α) (n : Nat) (t : StO α) (l : List (Nat × α)) : StO α := l.foldl (fun t x => stepO K n x.1 x.2 t) t
theorem foldO_next {α : Type} (K : Kd α) (n : Nat) (t : StO α) (l : List (Nat × α)) (x : Nat × α) : foldO K n t (l ++ [x]) = stepO K n x.1 x.2 (foldO K n t l) := by simp [foldO]
theorem foldO_run {α : Type} (K : Kd α) (n : Nat) (s : Nat → Nat → α) (h : Nat → α) (r : α) : ∀ t, foldO K n ⟨s, fun _ => K.z, r⟩ ((List.range t).map fun i => (n - 1 - i, wO K n s h (n - 1 - i))) = runO K n s h r t := by
 intro t
 induction t with
 | zero => rfl
 | succ t ih => rw [List.range_succ, List.map_append, show List.map (fun i => (n - 1 - i, wO K n s h (n - 1 - i))) [t] = [(n - 1 - t, wO K n s h (n - 1 - t))] from rfl, foldO_next, ih]; rfl
set_option maxHeartbeats 1000000 in
theorem rFitsF (px : Option Addr) (nx cx : Nat) (r c : Int) (p : Option Addr) (n cap : Nat) (w : World) :
  Calls Tryz.prog 64 #[.slice px nx cx, mV r c p n cap] w fun e w' => e = .returned (.bool (fitJ r c n nx)) ∧ Bl w w' := by
 obtain ⟨W, hW⟩ : ∃ W, W = w.alloc (.cells #[.int .i64 r, .int .i64 c, .slice p n cap] 30) := ⟨_, rfl⟩
 have b0 : Bl w W := by rw [hW]; exact (Bl.refl _).alloc _
 have m0 : MBox W w.heap.size r c p n cap := by rw [hW]; exact MBox.new w _ _ _ _ _ _
 have HW := hideP hW
 obtain ⟨c0, c1, c2, f0, f1, f2, lt⟩ := id m0
 rw [hW] at c0 c1 c2
 have SB := fun u : World => (by kernel_rfl : (Instr.build 36 #[(0, .slice px nx cx), (1, mV r c p n cap)]).run Tryz.prog u = .ok (sJ px nx cx r c p n cap) u)
 clear hW
 go_enter Tryz.func64, Tryz.ntmps64
 go_wp2_with fail
 rw [← HW.out]
 refine (jRightF px nx cx r c p n cap W).mono ?_
 rintro e w1 ⟨rfl, h1⟩
 go_wp2
 go_ret
 exact ⟨rfl, b0.trans h1⟩
set_option maxHeartbeats 1000000 in
theorem rRightF (px : Option Addr) (nx cx : Nat) (r c : Int) (p : Option Addr) (n cap : Nat) (w : World) :
  Calls Tryz.prog 30 #[sJ px nx cx r c p n cap] w fun e w' => e = .returned (.bool (fitJ r c n nx)) ∧ Bl w w' := by
 obtain ⟨W, hW⟩ : ∃ W, W = w.alloc (.cells #[.slice px nx cx, .int .i64 r, .int .i64 c, .slice p n cap] 63) := ⟨_, rfl⟩
 have b0 : Bl w W := by rw [hW]; exact (Bl.refl _).alloc _
 have s0 : SBox W w.heap.size px nx cx r c p n cap := by rw [hW]; exact SBox.new w _ _ _ _ _ _ _ _ _
 have HW := hideP hW
 obtain ⟨c0, c1, c2, c3, _, _, _, _, _⟩ := id s0
 rw [hW] at c0 c1 c2 c3
 clear hW
 go_enter Tryz.func30, Tryz.ntmps30
 go_wp2_with fail
 rw [← HW.out]
 refine (rFitsF px nx cx r c p n cap W).mono ?_
 rintro e w1 ⟨rfl, h1⟩
 go_wp2
 go_ret
 exact ⟨rfl, b0.trans h1⟩
set_option maxRecDepth 100000 in
set_option maxHeartbeats 2000000 in
theorem rCoverF (n : Nat) (px : Option Addr) (cx : Nat) (p : Option Addr) (N cap : Nat) (f : Nat → Nat → Fr) (w : World) (h : Mx 3 cellsF w n n p N cap f) (h4 : n ≤ 4) :
  Calls Tryz.prog 28 #[sJ px n cx n n p N cap] w fun e w' => ∃ p' c', e = .returned (mV n n p' N c') ∧ Mx 3 cellsF w' n n p' N c' (squareJ kdF n f) ∧ Bl w w' := by
 have hfit := fitJ_dim h.1 h.2.1 h4
 obtain ⟨W, hW⟩ : ∃ W, W = (w.alloc (.cells #[.slice px n cx, .int .i64 n, .int .i64 n, .slice p N cap] 63)).alloc (.cells #[.int .i64 0, .int .i64 0, .slice none 0 0] 30) := ⟨_, rfl⟩
 have b0 : Bl w W := by rw [hW]; exact ((Bl.refl _).alloc _).alloc _
 have s0 : SBox W w.heap.size px n cx n n p N cap := by rw [hW]; exact (SBox.new w _ _ _ _ _ _ _ _ _).later ((Bl.refl _).alloc _)
 have z0 : MBox W (w.heap.size + 1) 0 0 none 0 0 := by rw [hW]; have := MBox.new (w.alloc (.cells #[.slice px n cx, .int .i64 n, .int .i64 n, .slice p N cap] 63)) 0 0 none 0 0 30; rw [World.size_alloc] at this; exact this
 have hs : W.heap.size = w.heap.size + 1 + 1 := by rw [hW]; simp
 have HM := hideP h
 have HW := hideP hW
 obtain ⟨c0, c1, c2, c3, _, _, _, _, _⟩ := id s0
 rw [hW] at c0 c1 c2 c3
 clear hW h
 go_enter Tryz.func28, Tryz.ntmps28
 go_wp2_with fail
 try simp only [World.size_alloc]
 rw [← HW.out]
 refine (rRightF px n cx n n p N cap W).mono ?_
 rintro e w1 ⟨rfl, h1⟩
 rw [hfit]
 clear c0 c1 c2 c3
 obtain ⟨c0, c1, c2, c3, _, _, _, _, _⟩ := s0.later h1
 go_wp2_with fail
 refine (tSqF n p N cap f w1 (HM.out.later (b0.trans h1))).mono ?_
 rintro e w2 ⟨p2, c2', rfl, ⟨hP, hF⟩, h2⟩
 obtain ⟨d0, d1, d2, g0, g1, g2, _⟩ := z0.later (h1.trans (h2.trans ((Bl.refl _).alloc (.cells #[.int .i64 n, .int .i64 n, .slice p2 N c2'] 30))))
 have k2 := MBox.new w2 n n p2 N c2' 30
 obtain ⟨W2, hW2⟩ : ∃ W2, W2 = w2.alloc (.cells #[.int .i64 n, .int .i64 n, .slice p2 N c2'] 30) := ⟨_, rfl⟩
 have b2 : Bl w2 W2 := by rw [hW2]; exact (Bl.refl _).alloc _
 have B2 : Bl w W2 := (b0.trans h1).trans (h2.trans b2)
 have HP := hideP (Mx.later hP b2)
 have HF := hideP hF
 have hs2 : w1.heap.size ≤ W2.heap.size := (h2.trans b2).size
 have hs1 := h1.size
 obtain ⟨x0, x1, x2, _, _, _, _⟩ := id k2
 have HW2 := hideP hW2
 clear hP hF c0 c1 c2 c3 hW2
 go_wp2
 simp [bodyPost, results, Tryz.results28, go_sem, d0, d1, d2, x0, x1, x2, g0, g1, g2]
 exact ⟨p2, c2', by simp, by rw [← HW2.out]; exact mx_ne7 HP.out (fun b hb => by have := HF.out b hb; omega) _ _ _, by rw [← HW2.out]; exact Bl.put3 B2 (Nat.le_succ _) _ _ _⟩
theorem Tryz.buildRF (q : Option Addr) (n c : Nat) (r d : Int) (p : Option Addr) (N cap : Nat) (u : World) : (Instr.build 63 #[(0, .slice q n c), (1, mV r d p N cap)]).run Tryz.prog u = .ok (sJ q n c r d p N cap) u := by kernel_rfl
set_option maxRecDepth 100000 in
set_option maxHeartbeats 2000000 in
theorem rNewF (n : Nat) (px : Option Addr) (cx : Nat) (x : Nat → Fr) (p : Option Addr) (N cap : Nat) (f : Nat → Nat → Fr) (w : World) (hx : Rq 3 cellsF w (.slice px n cx) (linJ n x)) (h : Mx 3 cellsF w n n p N cap f) (h4 : n ≤ 4) :
  Calls Tryz.prog 25 #[.slice px n cx, mV n n p N cap] w fun e w' => ∃ q c p' c', e = .returned (.tuple #[sJ q n c n n p' N c', .bool true]) ∧ (Rw 3 cellsF w' (.slice q n c) (linJ n x) ∧ Mx 3 cellsF w' n n p' N c' (clrF f)) ∧ Bl w w' := by
 have fm : Tryz.prog.follows .mixedOrders = true := by kernel_rfl
 have egC := enters_of Tryz.func66 (by kernel_rfl) rfl
 have hfit := fitJ_dim h.1 h.2.1 h4
 obtain ⟨W, hW⟩ : ∃ W, W = (w.alloc (.cells #[.int .i64 n, .int .i64 n, .slice p N cap] 30)).alloc (.cells #[.slice none 0 0, .int .i64 0, .int .i64 0, .slice none 0 0] 63) := ⟨_, rfl⟩
 have b0 : Bl w W := by rw [hW]; exact ((Bl.refl _).alloc _).alloc _
 have m0 : MBox W w.heap.size n n p N cap := by rw [hW]; exact (MBox.new w _ _ _ _ _ _).later ((Bl.refl _).alloc _)
 have s0 : SBox W (w.heap.size + 1) none 0 0 0 0 none 0 0 := by rw [hW]; have := SBox.new (w.alloc (.cells #[.int .i64 n, .int .i64 n, .slice p N cap] 30)) none 0 0 0 0 none 0 0 63; rw [World.size_alloc] at this; exact this
 have hs : W.heap.size = w.heap.size + 1 + 1 := by rw [hW]; simp
 have HX := hideP hx
 have HMX := hideP h
 have HW := hideP hW
 clear hW hx h
 go_enter Tryz.func25, Tryz.ntmps25
 go_wp2_with fail
 rw [← HW.out]
 refine (rFitsF _ _ _ _ _ _ _ _ _).mono ?_
 rintro e w1 ⟨rfl, h1⟩
 rw [hfit]
 obtain ⟨c0, c1, cm, f0, f1, f2, lt⟩ := m0.later h1
 have b01 := b0.trans h1
 go_wp2_with fail
 refine (tClearF n p N cap f w1 (HMX.out.later b01)).mono ?_
 rintro e w2 ⟨p2, c2, rfl, ⟨hP, hF⟩, h2⟩
 have k2 := MBox.new w2 n n p2 N c2 30
 obtain ⟨W2, hW2⟩ : ∃ W2, W2 = w2.alloc (.cells #[.int .i64 n, .int .i64 n, .slice p2 N c2] 30) := ⟨_, rfl⟩
 have b2 : Bl w2 W2 := by rw [hW2]; exact (Bl.refl _).alloc _
 rw [← hW2] at k2
 have HW2 := hideP hW2
 have B2 : Bl w W2 := b01.trans (h2.trans b2)
 have s2 := s0.later (h1.trans (h2.trans b2))
 have hsz : w.heap.size + 1 + 1 ≤ W2.heap.size := by have := (h1.trans (h2.trans b2)).size; omega
 have HP := hideP (show Mx 3 cellsF W2 n n p2 N c2 (clrF f) from Mx.later hP b2)
 have HF := hideP (show Fresh (w.heap.size + 1 + 1) (.slice p2 N c2) from fresh_le hF (by have := h1.size; omega))
 have CL := hideP (fun u (hu : Bl W2 u) => clone_linF px n cx x u (HX.out.later (B2.trans hu)) (by have := h4; omega))
 clear hW2 hP hF c0 c1 cm f0 f1 f2 lt
 go_wp2_with fail
 rw [← HW2.out]
 refine (wpIn_wide (n := 8)).1 (region_q fm [some 18, some 19, some 20, some 21, none, some 5] (fun j => j == 5) 4 (by kernel_rfl) (by rfl)
  (fun j v u => match j with | 0 => v = .slice px n cx | 1 => ∃ q c, v = .slice q n c ∧ Rw 3 cellsF u (.slice q n c) (linJ n x) ∧ Fresh W2.heap.size (.slice q n c) | 2 => v = mV n n p2 N c2 | 3 => ∃ q c, v = sJ q n c n n p2 N c2 ∧ Rw 3 cellsF u (.slice q n c) (linJ n x) ∧ Fresh W2.heap.size (.slice q n c) | 5 => v = .bool true | _ => False)
  (by
    intro j v u u' hb h
    split at h <;> first | exact h | (obtain ⟨q, c, e, h1, h2⟩ := h; exact ⟨q, c, e, h1.later hb, h2⟩)) (fun vs u0 u => ∃ q c, SBox u (w.heap.size + 1) q n c n n p2 N c2 ∧ Rw 3 cellsF u (.slice q n c) (linJ n x) ∧ Mx 3 cellsF u n n p2 N c2 (clrF f) ∧ Bl w u) ?step ?still ?store ?fin)
 case step =>
  intro j o t act u ho hdt hpu hsz hu hfr hin
  have hj : j < 6 := (Array.getElem?_eq_some_iff.1 ho).1
  obtain ⟨y0, y1, y2, _, _, _, _⟩ := k2.later hu
  rcases (by omega : j = 0 ∨ j = 1 ∨ j = 2 ∨ j = 3 ∨ j = 4 ∨ j = 5) with rfl | rfl | rfl | rfl | rfl | rfl
  ·obtain rfl := Option.some.inj (opXE ho)
   obtain rfl := Option.some.inj hdt
   have i0 : act.eval (.tmp (0 : Nat)) = .slice px n cx := hfr 0 (by decide)
   exact plain_wp (by intro c h; cases h) (fun _ _ => trivial) (by simp only [execOp, i0, evalC, evalF, evalG]; simp [go_sem]) ⟨_, rfl, rfl, Bl.refl _⟩
  ·obtain rfl := Option.some.inj (opXE ho)
   obtain rfl := Option.some.inj hdt
   have i18 : (act.eval (.tmp (18 : Nat))) = .slice px n cx := hin ⟨0, .data⟩ (by simp) rfl 18 rfl
   refine enter_wp 66 #[.slice px n cx] (by intro c h; cases h) (fun _ _ => trivial) (by simp only [execOp, evalC, evalF, evalG, resolve, i18, List.map_toArray, List.map_cons, List.map_nil]; simp [invoke, egC, Result.andThen, go_sem]) (by intro h; cases h) (callsIn_wide.2 (CL.out u hu)) ?_
   rintro e w' ⟨q, c, rfl, ⟨hR, hF⟩, hb⟩
   exact ⟨_, rfl, _, rfl, ⟨q, c, rfl, hR, fresh_le hF hu.size⟩, hb⟩
  ·obtain rfl := Option.some.inj (opXE ho)
   obtain rfl := Option.some.inj hdt
   have i6 : act.eval (.tmp (6 : Nat)) = .pointer (some ⟨w2.heap.size, 0, none⟩) := hfr 6 (by decide)
   exact plain_wp (by intro c h; cases h) (fun _ _ => trivial) (by simp only [execOp, i6, evalC, evalF, evalG]; simp [go_sem, y0, y1, y2]) ⟨_, rfl, rfl, Bl.refl _⟩
  ·obtain rfl := Option.some.inj (opXE ho)
   obtain rfl := Option.some.inj hdt
   have i19 : ∃ q c, (act.eval (.tmp (19 : Nat))) = .slice q n c ∧ Rw 3 cellsF u (.slice q n c) (linJ n x) ∧ Fresh W2.heap.size (.slice q n c) := hin ⟨1, .data⟩ (by simp) rfl 19 rfl
   have i20 : (act.eval (.tmp (20 : Nat))) = mV n n p2 N c2 := hin ⟨2, .data⟩ (by simp) rfl 20 rfl
   obtain ⟨q0, c0', e1, hq, hf⟩ := i19
   exact plain_wp (by intro c h; cases h) (fun _ _ => trivial) (by simp only [execOp, List.map_toArray, List.map_cons, List.map_nil, e1, i20]; simp [Tryz.buildRF, Result.andThen, go_sem]) ⟨_, rfl, ⟨q0, c0', rfl, hq, hf⟩, Bl.refl _⟩
  ·obtain rfl := Option.some.inj (opXE ho)
   cases hdt
  ·cases hpu
 case still =>
  intro j o t act u0 u ho hdt hpu hsz hu hfr hin
  have hj : j < 6 := (Array.getElem?_eq_some_iff.1 ho).1
  obtain ⟨y0, y1, y2, _, _, _, _⟩ := k2.later hu
  rcases (by omega : j = 0 ∨ j = 1 ∨ j = 2 ∨ j = 3 ∨ j = 4 ∨ j = 5) with rfl | rfl | rfl | rfl | rfl | rfl
  ·cases hpu
  ·cases hpu
  ·cases hpu
  ·cases hpu
  ·cases hpu
  ·obtain rfl := Option.some.inj (opXE ho)
   obtain rfl := Option.some.inj hdt
   exact plain_wp (by intro c h; cases h) (fun _ _ => trivial) (by simp only [execOp, evalC, evalF, evalG]; simp [go_sem]) ⟨_, rfl, rfl, rfl⟩
 case store =>
  intro o act u vs ho hsz hu hfr hin
  obtain rfl := Option.some.inj (opXE ho)
  have i4 : act.eval (.tmp (4 : Nat)) = .pointer (some ⟨w.heap.size + 1, 0, none⟩) := hfr 4 (by decide)
  obtain ⟨i21, k21⟩ : act.eval (.tmp (21 : Nat)) = vs 3 ∧ (∃ q c, (vs 3) = sJ q n c n n p2 N c2 ∧ Rw 3 cellsF u (.slice q n c) (linJ n x) ∧ Fresh W2.heap.size (.slice q n c)) := hin 3 21 rfl rfl
  obtain ⟨q0, c0', e1, hq, hf⟩ := k21
  rw [e1] at i21
  obtain ⟨c0, c1, c2', c3, f0, f1, f2, f3, lt⟩ := id (s2.later hu)
  exact skip_wp (by intro c h; cases h) (fun _ _ => trivial) (by simp only [execOp, i4, i21]; simp [go_sem, c0, c1, c2', c3, f0, f1, f2, f3]) ⟨rfl, q0, c0', (s2.later hu).fill _ _ _ _ _ _ _ _, rw_put4F hq (fresh_le hf (by omega)) _ _ _ _, mx_put4 (HP.out.later hu) HF.out _ _ _ _, Bl.put4 (B2.trans hu) (Nat.le_succ _) _ _ _ _⟩
 case fin =>
  intro vs vb u0 u hu hin hps
  have a0 := hin 0 18 rfl
  have a1 := hin 1 19 rfl
  have a2 := hin 2 20 rfl
  have a3 := hin 3 21 rfl
  have a5 := hin 5 5 rfl
  simp only [putL, Act.put, List.setIfInBounds_toArray, List.set_cons_zero, List.set_cons_succ, Nat.zero_add, Nat.reduceAdd, Nat.reduceBEq, Bool.or_false, Bool.or_true, Bool.false_or, Bool.true_or, Bool.false_eq_true, if_false, if_true, reduceIte, Nat.reduceEqDiff, beq_self_eq_true, Bool.or_self] at a0 a1 a2 a3 a5 ⊢
  rw [if_pos (by decide)] at hps
  simp only [a0, a2, a5]
  obtain ⟨q, c, sx, hR, hM, hbw⟩ := hps
  clear a1 a3
  have HR := hideP hR
  have HM := hideP hM
  clear hR hM
  obtain ⟨c0, c1, c2', c3, f0, f1, f2, f3, lt⟩ := sx
  go_wp2
  simp [bodyPost, results, Tryz.results25, go_sem, c0, c1, c2', c3]
  exact ⟨q, c, p2, c2, by simp, ⟨HR.out, HM.out⟩, hbw⟩
end Go.Proofs.YtljmggemdkfbiaaGreat
namespace Go.Proofs.YtljmggemdkfbiaaGreat
open Go.RowKit Go.Shelf
set_option linter.unusedSimpArgs false
set_option linter.unusedVariables false
attribute [local go_sem] Oper.semAt_some
set_option maxHeartbeats 1000000 in
theorem vCloneZF (v : Value) (xs : List Fr) (w : World) (h : Rq 3 cellsF w v xs) (hl : xs.length ≤ 1000000) (hne : xs ≠ []) :
  Calls Tryz.prog 66 #[v] w fun e w' => ∃ u, e = .returned u ∧ RwZ 3 cellsF w' w.heap.size u xs ∧ Bl w w' := by
 have n0 := Tryz.nil0F
 have n1 := Tryz.nil1F
 obtain ⟨i0, hi, hz0, hz1, hz2⟩ := info_parts Tryz.info_F
 rcases h with ⟨p, cap, rfl, rfl, hpn⟩ | ⟨b, o, cap, rfl, hc, hb, hx⟩
 ·exact absurd rfl hne
 ·have HX := hideP hx
  clear hx n0
  go_enter Tryz.func66, Tryz.ntmps66
  go_wp2_with (at_builtin; refine wpList_append_own _ rfl _ _ 28 rfl w.heap.size 34 i0 (.agg #[.int .i64 0, .int .i64 0, .bool false]) 3 24 Tryz.underlying28 hi hz0 hz1 hz2 rfl (by decide) _ 0 [] rfl (World.ownsRow_made w #[] 0 (Nat.le_refl _) (by decide) rfl) ⟨b, o, none⟩ xs.length cap (xs.flatMap cellsF) rfl (flat_len cellsF_len xs) (flat_cells cellsF_len ((Rw_cells_later HX.out hb ((Bl.refl _).alloc _)))) (flat_one oneF_cells xs) (by unfold maxLen; omega) (by omega) (by simp) ?_; intro v' w1 hown' hgrow _)
  have R := hideP (RwZ.of_own (xs := xs) cellsF_len (by simpa using hown') hne)
  have hB : Bl w w1 := Below.grown (Below.alloc (Bl.refl w) (Nat.le_refl _) _) hgrow (by simp) (fun k e => by cases e; exact Nat.le_refl _)
  clear hown' hgrow
  go_wp2
  go_ret
  exact ⟨_, rfl, R.out, hB⟩
theorem RwZ.base {α : Type} {s : Nat} {c : α → List Value} {w : World} {lo lo' : Nat} {v : Value} {xs : List α} (h : RwZ s c w lo v xs) (k : lo' ≤ lo) : RwZ s c w lo' v xs := by
 obtain ⟨b, cap, e, hc, hlo, r⟩ := h
 exact ⟨b, cap, e, hc, Nat.le_trans k hlo, r⟩
theorem RwZ.set {α : Type} {s : Nat} {c : α → List Value} {w : World} {lo : Nat} {v : Value} {xs : List α} (h : RwZ s c w lo v xs) {p : Addr} (u : Value) (hf : p.block < lo) : RwZ s c (w.setCell p u) lo v xs := by
 obtain ⟨b, cap, rfl, hc, hlo, hb, hz, hx⟩ := h
 have hk : (w.setCell p u).heap[b]? = w.heap[b]? := Below.heap_setCell _ _ _ b (by omega)
 exact ⟨b, cap, rfl, hc, hlo, by simpa using hb, fun o => (World.frozen?_of_block (a := ⟨b, o, none⟩) hk).trans (hz o), fun j x hj k v hv => (World.cell?_of_block (a := ⟨b, j * s + k, none⟩) hk).trans (hx j x hj k v hv)⟩
theorem mNewZF (r c : Int) (p : Option Addr) (n cap : Nat) (xs : List Fr) (w : World) (hr : Rq 3 cellsF w (.slice p n cap) xs) (h : fitB r c n = true) (hn : xs.length = n) :
  Calls Tryz.prog 98 #[.int .i64 r, .int .i64 c, .slice p n cap] w fun e w' => ∃ p' cap', e = .returned (.tuple #[mV r c p' n cap', .bool true]) ∧ RwZ 3 cellsF w' w.heap.size (.slice p' n cap') xs ∧ Bl w w' := by
 have hl : n ≤ 1000000 := by obtain ⟨R, C, _, _, hd, rfl⟩ := fitB_nat h; have := hd.lt; omega
 obtain ⟨W, hW⟩ : ∃ W, W = w.alloc (.cells #[.int .i64 0, .int .i64 0, .slice none 0 0] 30) := ⟨_, rfl⟩
 have b0 : Bl w W := by rw [hW]; exact (Bl.refl _).alloc _
 have x0 : MBox W w.heap.size 0 0 none 0 0 := by rw [hW]; exact MBox.new w 0 0 none 0 0 _
 have hsz : W.heap.size = w.heap.size + 1 := by rw [hW]; simp
 have hne : xs ≠ [] := by
  obtain ⟨R, C, _, _, hd, e⟩ := fitB_nat h
  have := Mx.pos hd e
  intro e2
  rw [e2] at hn
  simp at hn
  omega
 have CL := hideP (vCloneZF (.slice p n cap) xs W (hr.later b0) (by omega) hne)
 have HW := hideP hW
 clear hW hr
 go_enter Tryz.func98, Tryz.ntmps98
 go_wp2_with fail
 rw [← HW.out]
 refine (fits_any _ _ _ _).mono ?_
 rintro e w1 ⟨rfl, rfl⟩
 rw [h]
 go_wp2_with fail
 refine CL.out.mono ?_
 rintro e w2 ⟨u, rfl, hR, h2⟩
 obtain ⟨p', cap', rfl, _, _⟩ := hR.rw.cut
 rw [hn] at hR ⊢
 have HR := hideP (hR.base (lo' := w.heap.size + 1) (by omega))
 obtain ⟨c0, c1, c2, f0, f1, f2, lt⟩ := x0.later h2
 clear hR CL
 go_wp2
 simp [bodyPost, results, Tryz.results98, go_sem, c0, c1, c2]
 exact ⟨p', cap', ⟨rfl, rfl⟩, (((HR.out.set _ (Nat.lt_succ_self _)).set _ (Nat.lt_succ_self _)).set _ (Nat.lt_succ_self _)).base (by omega), Bl.put3 (b0.trans h2) (Nat.le_refl _) _ _ _⟩
end Go.Proofs.YtljmggemdkfbiaaGreat
namespace Go.Proofs.YtljmggemdkfbiaaGreat
open Go.RowKit
set_option linter.unusedSimpArgs false
set_option linter.unusedVariables false
theorem tailH_q (m k : Nat) (f : Nat → Fr) : (tailH m k f).map toQ = (List.range (m - k)).map fun j => toQ (f (k + j)) := by unfold tailH; rw [List.map_map]; rfl
theorem dot_tail {m k : Nat} {f g : Nat → Fr} (h : fineR (dotF (tailH m k f) (tailH m k g)) = true) : (∀ c, k ≤ c → c < m → fineR (f c) = true ∧ fineR (g c) = true) ∧ toQ (dotF (tailH m k f) (tailH m k g)) = dT m k (fun c => toQ (f c)) (fun c => toQ (g c)) := by
 obtain ⟨h1, h2⟩ := dot_q h
 refine ⟨fun c h3 h4 => ?_, ?_⟩
 ·have hm : mulR (f c) (g c) ∈ List.zipWith mulR (tailH m k f) (tailH m k g) := by
   refine List.mem_of_getElem? (i := c - k) ?_
   unfold tailH
   rw [List.getElem?_zipWith, List.getElem?_map, List.getElem?_map, List.getElem?_range (by omega)]
   simp [show k + (c - k) = c by omega]
  have := mul_q (h1 _ hm)
  exact ⟨this.1, this.2.1⟩
 ·rw [h2, tailH_q, tailH_q, dotQ_sumH]
  rfl
end Go.Proofs.YtljmggemdkfbiaaGreat
namespace Go.Proofs.YtljmggemdkfbiaaGreat
open Go.RowKit Go.Shelf
set_option linter.unusedSimpArgs false
set_option linter.unusedVariables false
attribute [local go_sem] Oper.semAt_some
attribute [local go_sem] Oper.semAt_some
attribute [local go_sem] Oper.semAt_some
theorem FBox.but {w w' : World} {b : Nat} {x : Fr} {S : Nat → Prop} (h : FBox w b x) (k : But S w w') (hs : ¬ S b) : FBox w' b x := by
 obtain ⟨c0, c1, c2, f0, f1, f2, lt⟩ := h
 refine ⟨(k.cell _ _ lt hs).trans c0, (k.cell _ _ lt hs).trans c1, (k.cell _ _ lt hs).trans c2, (k.froz _ _ lt hs).trans f0, (k.froz _ _ lt hs).trans f1, (k.froz _ _ lt hs).trans f2, Nat.lt_of_lt_of_le lt k.size⟩
theorem Tryz.sizeF : (Tryz.prog.info? 34).map (·.size) = some 3 := by kernel_rfl
end Go.Proofs.YtljmggemdkfbiaaGreat
namespace Go.Proofs.YtljmggemdkfbiaaGreat
open Go.RowKit
set_option linter.unusedSimpArgs false
set_option linter.unusedVariables false
theorem butRF (u : World) (b : Nat) (v0 v1 v2 : Value) : But (fun i => i = b) u ((((u.setCell ⟨b, 0, none⟩ v0).setCell ⟨b, 1, none⟩ v1).setCell ⟨b, 2, none⟩ v2)) := (((but_cell1 (S := fun i => i = b) rfl _ _ _).trans (but_cell1 (S := fun i => i = b) rfl _ _ _)).trans (but_cell1 (S := fun i => i = b) rfl _ _ _))
theorem linJ_set9F {n i : Nat} (f : Nat → Fr) (hi : i < n) (y : Fr) : (linJ n f).set i y = linJ n (fun r => if r = i then y else f r) := by
 refine List.ext_getElem? fun k => ?_
 rw [List.getElem?_set]
 by_cases hk : k < n
 ·rw [linJ_get _ hk, linJ_get _ hk]
  by_cases e : i = k
  ·subst e
   simp [linJ_len, hi]
  ·rw [if_neg e, if_neg (fun h => e h.symm)]
 ·rw [if_neg (by omega)]
  rw [List.getElem?_eq_none (by rw [linJ_len]; omega), List.getElem?_eq_none (by rw [linJ_len]; omega)]
set_option maxRecDepth 100000 in
set_option maxHeartbeats 8000000 in
theorem rChangeF (n N g cap ge ce j0 lo : Nat) (t : StO Fr) (x : Fr) (w : World) (hd : Dim n n) (hN : N = n * n) (h : RwZ 3 cellsF w lo (.slice (some ⟨g, 0, none⟩) N cap) (mk n n t.s)) (he : RwZ 3 cellsF w lo (.slice (some ⟨ge, 0, none⟩) n ce) (linJ n t.e)) (hne : g ≠ ge) (hj0 : j0 < n) :
  Calls Tryz.prog 115 #[mV n n (some ⟨g, 0, none⟩) N cap, .slice (some ⟨ge, 0, none⟩) n ce, .int .i64 j0, frV x, frV t.a] w fun e w' => e = .returned (frV (bO kdF t.a x)) ∧ RwZ 3 cellsF w' lo (.slice (some ⟨g, 0, none⟩) N cap) (mk n n (stepO kdF n j0 x t).s) ∧ RwZ 3 cellsF w' lo (.slice (some ⟨ge, 0, none⟩) n ce) (linJ n (stepO kdF n j0 x t).e) ∧ But (fun b => b = g ∨ b = ge) w w' := by
 have fm : Tryz.prog.follows .mixedOrders = true := by kernel_rfl
 have egT := enters_of Tryz.func113 (by kernel_rfl) rfl
 have egA := enters_of Tryz.func184 (by kernel_rfl) rfl
 have egS := enters_of Tryz.func192 (by kernel_rfl) rfl
 have egM := enters_of Tryz.func187 (by kernel_rfl) rfl
 have egD := enters_of Tryz.func185 (by kernel_rfl) rfl
 have egR := enters_of Tryz.func190 (by kernel_rfl) rfl
 have mvD := Tryz.mDivF
 have mvR := Tryz.mRootF
 have hn16 := hd.r2
 have HN := hideP hN
 have HD := hideP hd
 obtain ⟨av, hav⟩ : ∃ y, y = t.a := ⟨_, rfl⟩
 obtain ⟨ww, hww⟩ : ∃ y, y = mulR x x := ⟨_, rfl⟩
 obtain ⟨bb, hbb⟩ : ∃ y, y = addR av ww := ⟨_, rfl⟩
 obtain ⟨q1, hq1⟩ : ∃ y, y = divR av bb := ⟨_, rfl⟩
 obtain ⟨dd, hdd⟩ : ∃ y, y = rootR q1 := ⟨_, rfl⟩
 obtain ⟨ab, hab⟩ : ∃ y, y = mulR av bb := ⟨_, rfl⟩
 obtain ⟨rt, hrt⟩ : ∃ y, y = rootR ab := ⟨_, rfl⟩
 obtain ⟨cc, hcc⟩ : ∃ y, y = divR x rt := ⟨_, rfl⟩
 have HWW := hideP (fun u => by have := rmul_any x x u; rw [← hww] at this; exact this)
 have HBB := hideP (fun u => by have := radd_any av ww u; rw [← hbb] at this; exact this)
 have HQ1 := hideP (fun u => by have := rdiv_any av bb u; rw [← hq1] at this; exact this)
 have HD1 := hideP (fun u => by have := rroot_any q1 u; rw [← hdd] at this; exact this)
 have HAB := hideP (fun u => by have := rmul_any av bb u; rw [← hab] at this; exact this)
 have HRT := hideP (fun u => by have := rroot_any ab u; rw [← hrt] at this; exact this)
 have HCC := hideP (fun u => by have := rdiv_any x rt u; rw [← hcc] at this; exact this)
 have HAV := hideP hav
 have HBO := hideP (show bO kdF t.a x = bb from by rw [hbb, hww, hav]; rfl)
 have HDD := hideP (show dd = dO kdF av x from by rw [hdd, hq1, hbb, hww]; rfl)
 have HCCQ := hideP (show cc = cO kdF av x from by rw [hcc, hrt, hab, hbb, hww]; rfl)
 rw [HBO.out, ← hav]
 clear hav hww hbb hq1 hdd hab hrt hcc
 obtain ⟨W, hW⟩ : ∃ W, W = (((w.alloc (.cells #[.int .i64 n, .int .i64 n, .slice (some ⟨g, 0, none⟩) N cap] 30)).alloc (.cells #[.int .i64 x.n, .int .i64 x.d, .bool x.bad] 34)).alloc (.cells #[.int .i64 av.n, .int .i64 av.d, .bool av.bad] 34)).alloc (.cells #[.int .i64 0, .int .i64 0, .bool false] 34) := ⟨_, rfl⟩
 have b0 : Bl w W := by rw [hW]; exact ((((Bl.refl _).alloc _).alloc _).alloc _).alloc _
 have m0 : MBox W w.heap.size n n (some ⟨g, 0, none⟩) N cap := by rw [hW]; exact (MBox.new w _ _ _ _ _ _).later ((((Bl.refl _).alloc _).alloc _).alloc _)
 have kw : FBox W (w.heap.size + 1) x := by rw [hW]; have := (FBox.new (w.alloc (.cells #[.int .i64 n, .int .i64 n, .slice (some ⟨g, 0, none⟩) N cap] 30)) x 34).later (((Bl.refl _).alloc (.cells #[.int .i64 av.n, .int .i64 av.d, .bool av.bad] 34)).alloc (.cells #[.int .i64 0, .int .i64 0, .bool false] 34)); simp only [World.size_alloc] at this; exact this
 have ka : FBox W (w.heap.size + 1 + 1) av := by rw [hW]; have := (FBox.new ((w.alloc (.cells #[.int .i64 n, .int .i64 n, .slice (some ⟨g, 0, none⟩) N cap] 30)).alloc (.cells #[.int .i64 x.n, .int .i64 x.d, .bool x.bad] 34)) av 34).later ((Bl.refl _).alloc (.cells #[.int .i64 0, .int .i64 0, .bool false] 34)); simp only [World.size_alloc] at this; exact this
 have kz : FBox W (w.heap.size + 1 + 1 + 1) zeroR := by rw [hW]; have := (FBox.new (((w.alloc (.cells #[.int .i64 n, .int .i64 n, .slice (some ⟨g, 0, none⟩) N cap] 30)).alloc (.cells #[.int .i64 x.n, .int .i64 x.d, .bool x.bad] 34)).alloc (.cells #[.int .i64 av.n, .int .i64 av.d, .bool av.bad] 34)) zeroR 34); simp only [World.size_alloc] at this; exact this
 have hWs : W.heap.size = w.heap.size + 1 + 1 + 1 + 1 := by rw [hW]; simp
 have hglt := h.glt
 have hgelt := he.glt
 have H0 := hideP (h.later b0)
 have E0 := hideP (he.later b0)
 have HW := hideP hW
 clear hW h he hd hN
 go_enter Tryz.func115, Tryz.ntmps115
 go_wp2_with fail
 try simp only [World.size_alloc]
 rw [← HW.out]
 refine (wpIn_wide (n := 8)).1 (region_q fm [some 16, some 17, some 18, some 19, some 20, some 21, some 22, some 11, none] (fun _ => false) 8 (by kernel_rfl) (by rfl)
   (fun j v u => match j with | 0 => v = frV av | 1 => v = .iface 34 (frV av) | 2 => v = frV x | 3 => v = .iface 34 (frV x) | 4 => v = frV x | 5 => v = frV ww | 6 => v = frV bb | 7 => ∃ b, v = .pointer (some ⟨b, 0, none⟩) ∧ W.heap.size ≤ b ∧ FBox u b zeroR | _ => False)
   (by
    intro j v u u' hb h
    split at h <;> first | exact h | (obtain ⟨b, e, h1, h2⟩ := h; exact ⟨b, e, h1, h2.later hb⟩) | (obtain ⟨q, c, e, h1⟩ := h; exact ⟨q, c, e, h1.later hb⟩)) (fun vs u0 u => ∃ b, vs 7 = .pointer (some ⟨b, 0, none⟩) ∧ W.heap.size ≤ b ∧ FBox u b bb ∧ Bl W u) ?step ?still ?store ?fin)
 case step =>
  intro j o t act u ho hdt hpu hsz hu hfr hin
  have hj : j < 9 := (Array.getElem?_eq_some_iff.1 ho).1
  skip
  rcases (by omega : j = 0 ∨ j = 1 ∨ j = 2 ∨ j = 3 ∨ j = 4 ∨ j = 5 ∨ j = 6 ∨ j = 7 ∨ j = 8) with rfl | rfl | rfl | rfl | rfl | rfl | rfl | rfl | rfl
  ·obtain rfl := Option.some.inj (opXE ho)
   obtain rfl := Option.some.inj hdt
   have i9 : act.eval (.tmp (9 : Nat)) = .pointer (some ⟨w.heap.size + 1 + 1, 0, none⟩) := hfr 9 (by decide)
   obtain ⟨c0, c1, c2, f0, f1, f2, _⟩ := ka.later hu
   exact plain_wp (by intro c h; cases h) (fun _ _ => trivial) (by simp only [execOp, i9, evalC, evalF, evalG]; simp [go_sem, c0, c1, c2]) ⟨_, rfl, rfl, Bl.refl _⟩
  ·obtain rfl := Option.some.inj (opXE ho)
   obtain rfl := Option.some.inj hdt
   have i16 : (act.eval (.tmp (16 : Nat))) = frV av := hin ⟨0, .data⟩ (by simp) rfl 16 rfl
   exact plain_wp (by intro c h; cases h) (fun _ _ => trivial) (by simp only [execOp, i16, evalC, evalF, evalG]; simp [go_sem]) ⟨_, rfl, rfl, Bl.refl _⟩
  ·obtain rfl := Option.some.inj (opXE ho)
   obtain rfl := Option.some.inj hdt
   have i8 : act.eval (.tmp (8 : Nat)) = .pointer (some ⟨w.heap.size + 1, 0, none⟩) := hfr 8 (by decide)
   obtain ⟨c0, c1, c2, f0, f1, f2, _⟩ := kw.later hu
   exact plain_wp (by intro c h; cases h) (fun _ _ => trivial) (by simp only [execOp, i8, evalC, evalF, evalG]; simp [go_sem, c0, c1, c2]) ⟨_, rfl, rfl, Bl.refl _⟩
  ·obtain rfl := Option.some.inj (opXE ho)
   obtain rfl := Option.some.inj hdt
   have i18 : (act.eval (.tmp (18 : Nat))) = frV x := hin ⟨2, .data⟩ (by simp) rfl 18 rfl
   exact plain_wp (by intro c h; cases h) (fun _ _ => trivial) (by simp only [execOp, i18, evalC, evalF, evalG]; simp [go_sem]) ⟨_, rfl, rfl, Bl.refl _⟩
  ·obtain rfl := Option.some.inj (opXE ho)
   obtain rfl := Option.some.inj hdt
   have i8 : act.eval (.tmp (8 : Nat)) = .pointer (some ⟨w.heap.size + 1, 0, none⟩) := hfr 8 (by decide)
   obtain ⟨c0, c1, c2, f0, f1, f2, _⟩ := kw.later hu
   exact plain_wp (by intro c h; cases h) (fun _ _ => trivial) (by simp only [execOp, i8, evalC, evalF, evalG]; simp [go_sem, c0, c1, c2]) ⟨_, rfl, rfl, Bl.refl _⟩
  ·obtain rfl := Option.some.inj (opXE ho)
   obtain rfl := Option.some.inj hdt
   have i19 : (act.eval (.tmp (19 : Nat))) = .iface 34 (frV x) := hin ⟨3, .data⟩ (by simp) rfl 19 rfl
   have i20 : (act.eval (.tmp (20 : Nat))) = frV x := hin ⟨4, .data⟩ (by simp) rfl 20 rfl
   have iv := Tryz.mMulF
   refine enter_wp 187 #[frV x, frV x] (by intro c h; cases h) (fun _ _ => trivial) (by simp only [execOp, evalC, evalF, evalG, resolve, i19, i20, List.map_toArray, List.map_cons, List.map_nil]; simp [invoke, iv, egM, Result.andThen, go_sem]) (by intro h; cases h) (callsIn_wide.2 (HWW.out u)) ?_
   rintro e w' ⟨rfl, hb⟩
   exact ⟨_, rfl, _, rfl, rfl, hb⟩
  ·obtain rfl := Option.some.inj (opXE ho)
   obtain rfl := Option.some.inj hdt
   have i17 : (act.eval (.tmp (17 : Nat))) = .iface 34 (frV av) := hin ⟨1, .data⟩ (by simp) rfl 17 rfl
   have i21 : (act.eval (.tmp (21 : Nat))) = frV ww := hin ⟨5, .data⟩ (by simp) rfl 21 rfl
   have iv := Tryz.mAddF
   refine enter_wp 184 #[frV av, frV ww] (by intro c h; cases h) (fun _ _ => trivial) (by simp only [execOp, evalC, evalF, evalG, resolve, i17, i21, List.map_toArray, List.map_cons, List.map_nil]; simp [invoke, iv, egA, Result.andThen, go_sem]) (by intro h; cases h) (callsIn_wide.2 (HBB.out u)) ?_
   rintro e w' ⟨rfl, hb⟩
   exact ⟨_, rfl, _, rfl, rfl, hb⟩
  ·obtain rfl := Option.some.inj (opXE ho)
   obtain rfl := Option.some.inj hdt
   exact plain_wp (by intro c h; cases h) (fun _ _ => trivial) (w' := u.alloc (.cells #[.int .i64 0, .int .i64 0, .bool false] 34)) (v := .pointer (some ⟨u.heap.size, 0, none⟩)) (by simp only [execOp]; simp [go_sem]) ⟨_, rfl, ⟨u.heap.size, rfl, hu.size, FBox.new u zeroR _⟩, (Bl.refl _).alloc _⟩
  ·obtain rfl := Option.some.inj (opXE ho)
   cases hdt
 case still =>
  intro j o t act u0 u ho hdt hpu
  cases hpu
 case store =>
  intro o act u vs ho hsz hu hfr hin
  obtain rfl := Option.some.inj (opXE ho)
  obtain ⟨i11, k11⟩ : act.eval (.tmp (11 : Nat)) = vs 7 ∧ (∃ b, (vs 7) = .pointer (some ⟨b, 0, none⟩) ∧ W.heap.size ≤ b ∧ FBox u b zeroR) := hin 7 11 rfl rfl
  obtain ⟨i22, k22⟩ : act.eval (.tmp (22 : Nat)) = vs 6 ∧ ((vs 6) = frV bb) := hin 6 22 rfl rfl
  obtain ⟨b, e1, hb, bx⟩ := k11
  rw [e1] at i11
  replace i22 := i22.trans k22
  obtain ⟨c0, c1, c2, f0, f1, f2, ltb⟩ := id bx
  exact skip_wp (by intro c h; cases h) (fun _ _ => trivial) (by simp only [execOp, i11, i22]; simp [go_sem, zeroR, c0, c1, c2, f0, f1, f2]) ⟨rfl, b, e1, hb, bx.fill _, Bl.set3 hu hb _ _ _⟩
 case fin =>
  intro vs vb u0 u hu hin hps
  have a0 := hin 0 16 rfl
  have a1 := hin 1 17 rfl
  have a2 := hin 2 18 rfl
  have a3 := hin 3 19 rfl
  have a4 := hin 4 20 rfl
  have a5 := hin 5 21 rfl
  have a6 := hin 6 22 rfl
  have a7 := hin 7 11 rfl
  simp only [putL, Act.put, List.setIfInBounds_toArray, List.set_cons_zero, List.set_cons_succ, Nat.zero_add, Nat.reduceAdd, Nat.reduceBEq, Bool.or_false, Bool.or_true, Bool.false_or, Bool.true_or, Bool.false_eq_true, if_false, if_true, reduceIte, Nat.reduceEqDiff, beq_self_eq_true, Bool.or_self] at a0 a1 a2 a3 a4 a5 a6 a7 ⊢
  rw [if_pos (by decide)] at hps
  simp only [a0, a1, a2, a3, a4, a5, a6]
  obtain ⟨b11, eb, hb11, kb, hbu⟩ := hps
  simp only [eb]
  obtain ⟨w1, rfl⟩ : ∃ w1, w1 = u := ⟨_, rfl⟩
  have b1 : Bl W w1 := hbu
  have lt11 : W.heap.size ≤ b11 := hb11
  clear hin hu a0 a1 a2 a3 a4 a5 a6
  obtain ⟨c0, c1, c2, f0, f1, f2, _⟩ := ka.later b1
  obtain ⟨d0, d1, d2, g0, g1, g2, _⟩ := kb
  have kb : FBox w1 b11 bb := ⟨d0, d1, d2, g0, g1, g2, by assumption⟩
  go_wp2_with fail
  refine (HQ1.out _).mono ?_
  rintro e w2 ⟨rfl, h2⟩
  clear c0 c1 c2 f0 f1 f2 d0 d1 d2 g0 g1 g2
  go_wp2_with fail
  refine (HD1.out _).mono ?_
  rintro e w2' ⟨rfl, h2'⟩
  obtain ⟨w3, hw3⟩ : ∃ w3, w3 = w2'.alloc (.cells #[.int .i64 dd.n, .int .i64 dd.d, .bool dd.bad] 34) := ⟨_, rfl⟩
  have b2a : Bl w2' w3 := by rw [hw3]; exact (Bl.refl _).alloc _
  have kd : FBox w3 w2'.heap.size dd := by rw [hw3]; exact FBox.new w2' dd _
  have b13 : Bl w1 w3 := (h2.trans h2').trans b2a
  have b3 : Bl W w3 := b1.trans b13
  obtain ⟨b12, hb12⟩ : ∃ b12, b12 = w2'.heap.size := ⟨_, rfl⟩
  have lt12 : W.heap.size ≤ b12 := by rw [hb12]; have := (b1.trans (h2.trans h2')).size; omega
  have HW3 := hideP hw3
  clear hw3
  go_wp2_with fail
  rw [← HW3.out, ← hb12]
  rw [← hb12] at kd
  clear hb12
  refine (wpIn_wide (n := 8)).1 (region_q fm [some 29, some 30, some 31, some 32, some 33, some 34, some 35, some 36, some 37, some 13, none] (fun _ => false) 10 (by kernel_rfl) (by rfl)
     (fun j v u => match j with | 0 => v = frV x | 1 => v = .iface 34 (frV x) | 2 => v = frV av | 3 => v = .iface 34 (frV av) | 4 => v = frV bb | 5 => v = frV ab | 6 => v = .iface 34 (frV ab) | 7 => v = frV rt | 8 => v = frV cc | 9 => ∃ b, v = .pointer (some ⟨b, 0, none⟩) ∧ w3.heap.size ≤ b ∧ FBox u b zeroR | _ => False)
     (by
      intro j v u u' hb h
      split at h <;> first | exact h | (obtain ⟨b, e, h1, h2⟩ := h; exact ⟨b, e, h1, h2.later hb⟩) | (obtain ⟨q, c, e, h1⟩ := h; exact ⟨q, c, e, h1.later hb⟩)) (fun vs u0 u => ∃ b, vs 9 = .pointer (some ⟨b, 0, none⟩) ∧ w3.heap.size ≤ b ∧ FBox u b cc ∧ Bl w3 u) ?step ?still ?store ?fin)
  case step =>
   intro j o t act u ho hdt hpu hsz hu hfr hin
   have hj : j < 11 := (Array.getElem?_eq_some_iff.1 ho).1
   skip
   rcases (by omega : j = 0 ∨ j = 1 ∨ j = 2 ∨ j = 3 ∨ j = 4 ∨ j = 5 ∨ j = 6 ∨ j = 7 ∨ j = 8 ∨ j = 9 ∨ j = 10) with rfl | rfl | rfl | rfl | rfl | rfl | rfl | rfl | rfl | rfl | rfl
   ·obtain rfl := Option.some.inj (opXE ho)
    obtain rfl := Option.some.inj hdt
    have i8 : act.eval (.tmp (8 : Nat)) = .pointer (some ⟨w.heap.size + 1, 0, none⟩) := hfr 8 (by decide)
    obtain ⟨c0, c1, c2, f0, f1, f2, _⟩ := kw.later (b3.trans hu)
    exact plain_wp (by intro c h; cases h) (fun _ _ => trivial) (by simp only [execOp, i8, evalC, evalF, evalG]; simp [go_sem, c0, c1, c2]) ⟨_, rfl, rfl, Bl.refl _⟩
   ·obtain rfl := Option.some.inj (opXE ho)
    obtain rfl := Option.some.inj hdt
    have i29 : (act.eval (.tmp (29 : Nat))) = frV x := hin ⟨0, .data⟩ (by simp) rfl 29 rfl
    exact plain_wp (by intro c h; cases h) (fun _ _ => trivial) (by simp only [execOp, i29, evalC, evalF, evalG]; simp [go_sem]) ⟨_, rfl, rfl, Bl.refl _⟩
   ·obtain rfl := Option.some.inj (opXE ho)
    obtain rfl := Option.some.inj hdt
    have i9 : act.eval (.tmp (9 : Nat)) = .pointer (some ⟨w.heap.size + 1 + 1, 0, none⟩) := hfr 9 (by decide)
    obtain ⟨c0, c1, c2, f0, f1, f2, _⟩ := ka.later (b3.trans hu)
    exact plain_wp (by intro c h; cases h) (fun _ _ => trivial) (by simp only [execOp, i9, evalC, evalF, evalG]; simp [go_sem, c0, c1, c2]) ⟨_, rfl, rfl, Bl.refl _⟩
   ·obtain rfl := Option.some.inj (opXE ho)
    obtain rfl := Option.some.inj hdt
    have i31 : (act.eval (.tmp (31 : Nat))) = frV av := hin ⟨2, .data⟩ (by simp) rfl 31 rfl
    exact plain_wp (by intro c h; cases h) (fun _ _ => trivial) (by simp only [execOp, i31, evalC, evalF, evalG]; simp [go_sem]) ⟨_, rfl, rfl, Bl.refl _⟩
   ·obtain rfl := Option.some.inj (opXE ho)
    obtain rfl := Option.some.inj hdt
    have i11 : act.eval (.tmp (11 : Nat)) = .pointer (some ⟨b11, 0, none⟩) := hfr 11 (by decide)
    obtain ⟨c0, c1, c2, f0, f1, f2, _⟩ := kb.later (b13.trans hu)
    exact plain_wp (by intro c h; cases h) (fun _ _ => trivial) (by simp only [execOp, i11, evalC, evalF, evalG]; simp [go_sem, c0, c1, c2]) ⟨_, rfl, rfl, Bl.refl _⟩
   ·obtain rfl := Option.some.inj (opXE ho)
    obtain rfl := Option.some.inj hdt
    have i32 : (act.eval (.tmp (32 : Nat))) = .iface 34 (frV av) := hin ⟨3, .data⟩ (by simp) rfl 32 rfl
    have i33 : (act.eval (.tmp (33 : Nat))) = frV bb := hin ⟨4, .data⟩ (by simp) rfl 33 rfl
    have iv := Tryz.mMulF
    refine enter_wp 187 #[frV av, frV bb] (by intro c h; cases h) (fun _ _ => trivial) (by simp only [execOp, evalC, evalF, evalG, resolve, i32, i33, List.map_toArray, List.map_cons, List.map_nil]; simp [invoke, iv, egM, Result.andThen, go_sem]) (by intro h; cases h) (callsIn_wide.2 (HAB.out u)) ?_
    rintro e w' ⟨rfl, hb⟩
    exact ⟨_, rfl, _, rfl, rfl, hb⟩
   ·obtain rfl := Option.some.inj (opXE ho)
    obtain rfl := Option.some.inj hdt
    have i34 : (act.eval (.tmp (34 : Nat))) = frV ab := hin ⟨5, .data⟩ (by simp) rfl 34 rfl
    exact plain_wp (by intro c h; cases h) (fun _ _ => trivial) (by simp only [execOp, i34, evalC, evalF, evalG]; simp [go_sem]) ⟨_, rfl, rfl, Bl.refl _⟩
   ·obtain rfl := Option.some.inj (opXE ho)
    obtain rfl := Option.some.inj hdt
    have i35 : (act.eval (.tmp (35 : Nat))) = .iface 34 (frV ab) := hin ⟨6, .data⟩ (by simp) rfl 35 rfl
    have iv := Tryz.mRootF
    refine enter_wp 190 #[frV ab] (by intro c h; cases h) (fun _ _ => trivial) (by simp only [execOp, evalC, evalF, evalG, resolve, i35, List.map_toArray, List.map_cons, List.map_nil]; simp [invoke, iv, egR, Result.andThen, go_sem]) (by intro h; cases h) (callsIn_wide.2 (HRT.out u)) ?_
    rintro e w' ⟨rfl, hb⟩
    exact ⟨_, rfl, _, rfl, rfl, hb⟩
   ·obtain rfl := Option.some.inj (opXE ho)
    obtain rfl := Option.some.inj hdt
    have i30 : (act.eval (.tmp (30 : Nat))) = .iface 34 (frV x) := hin ⟨1, .data⟩ (by simp) rfl 30 rfl
    have i36 : (act.eval (.tmp (36 : Nat))) = frV rt := hin ⟨7, .data⟩ (by simp) rfl 36 rfl
    have iv := Tryz.mDivF
    refine enter_wp 185 #[frV x, frV rt] (by intro c h; cases h) (fun _ _ => trivial) (by simp only [execOp, evalC, evalF, evalG, resolve, i30, i36, List.map_toArray, List.map_cons, List.map_nil]; simp [invoke, iv, egD, Result.andThen, go_sem]) (by intro h; cases h) (callsIn_wide.2 (HCC.out u)) ?_
    rintro e w' ⟨rfl, hb⟩
    exact ⟨_, rfl, _, rfl, rfl, hb⟩
   ·obtain rfl := Option.some.inj (opXE ho)
    obtain rfl := Option.some.inj hdt
    exact plain_wp (by intro c h; cases h) (fun _ _ => trivial) (w' := u.alloc (.cells #[.int .i64 0, .int .i64 0, .bool false] 34)) (v := .pointer (some ⟨u.heap.size, 0, none⟩)) (by simp only [execOp]; simp [go_sem]) ⟨_, rfl, ⟨u.heap.size, rfl, hu.size, FBox.new u zeroR _⟩, (Bl.refl _).alloc _⟩
   ·obtain rfl := Option.some.inj (opXE ho)
    cases hdt
  case still =>
   intro j o t act u0 u ho hdt hpu
   cases hpu
  case store =>
   intro o act u vs ho hsz hu hfr hin
   obtain rfl := Option.some.inj (opXE ho)
   obtain ⟨i13, k13⟩ : act.eval (.tmp (13 : Nat)) = vs 9 ∧ (∃ b, (vs 9) = .pointer (some ⟨b, 0, none⟩) ∧ w3.heap.size ≤ b ∧ FBox u b zeroR) := hin 9 13 rfl rfl
   obtain ⟨i37, k37⟩ : act.eval (.tmp (37 : Nat)) = vs 8 ∧ ((vs 8) = frV cc) := hin 8 37 rfl rfl
   obtain ⟨b, e1, hb, bx⟩ := k13
   rw [e1] at i13
   replace i37 := i37.trans k37
   obtain ⟨c0, c1, c2, f0, f1, f2, ltb⟩ := id bx
   exact skip_wp (by intro c h; cases h) (fun _ _ => trivial) (by simp only [execOp, i13, i37]; simp [go_sem, zeroR, c0, c1, c2, f0, f1, f2]) ⟨rfl, b, e1, hb, bx.fill _, Bl.set3 hu hb _ _ _⟩
  case fin =>
   intro vs vb u0 u hu hin hps
   have a0 := hin 0 29 rfl
   have a1 := hin 1 30 rfl
   have a2 := hin 2 31 rfl
   have a3 := hin 3 32 rfl
   have a4 := hin 4 33 rfl
   have a5 := hin 5 34 rfl
   have a6 := hin 6 35 rfl
   have a7 := hin 7 36 rfl
   have a8 := hin 8 37 rfl
   have a9 := hin 9 13 rfl
   simp only [putL, Act.put, List.setIfInBounds_toArray, List.set_cons_zero, List.set_cons_succ, Nat.zero_add, Nat.reduceAdd, Nat.reduceBEq, Bool.or_false, Bool.or_true, Bool.false_or, Bool.true_or, Bool.false_eq_true, if_false, if_true, reduceIte, Nat.reduceEqDiff, beq_self_eq_true, Bool.or_self] at a0 a1 a2 a3 a4 a5 a6 a7 a8 a9 ⊢
   rw [if_pos (by decide)] at hps
   simp only [a0, a1, a2, a3, a4, a5, a6, a7, a8]
   obtain ⟨b13', eb, hb13, kc, hbu⟩ := hps
   simp only [eb]
   obtain ⟨w5, rfl⟩ : ∃ w5, w5 = u := ⟨_, rfl⟩
   have b35 : Bl w3 w5 := hbu
   have b5 : Bl W w5 := b3.trans hbu
   have B5 : Bl W w5 := b5
   have b05 : Bl W W := Bl.refl _
   have b15' : Bl w1 w5 := b13.trans hbu
   have lt13 : w3.heap.size ≤ b13' := hb13
   have lt12 := lt12
   clear hin hu a0 a1 a2 a3 a4 a5 a6 a7 a8
   go_wp2_with fail
   go_loopw [14] (fun v wr => ∃ i : Nat, v = .int .i64 i ∧ j0 ≤ i ∧ i ≤ n ∧ RwZ 3 cellsF wr lo (.slice (some ⟨g, 0, none⟩) N cap) (mk n n (partS kdF j0 i x t)) ∧ RwZ 3 cellsF wr lo (.slice (some ⟨ge, 0, none⟩) n ce) (linJ n (partE kdF j0 i x t)) ∧ But (fun b => b = g ∨ b = ge) w5 wr) (fun v _ => n - (intOf v).toNat)
   case atStart => exact ⟨j0, rfl, Nat.le_refl _, by omega, by rw [partS_zero]; exact H0.out.later B5, by rw [partE_zero]; exact E0.out.later B5, But.refl _ _⟩
   case round =>
    obtain ⟨i, rfl, hji, hin, hr, he, bt⟩ := hrel
    have HR := hideP hr
    have HE := hideP he
    clear hr he
    have mb : MBox wr w.heap.size n n (some ⟨g, 0, none⟩) N cap := (m0.later b5).but bt (by have := hglt; have := hgelt; omega)
    by_cases hlt : i < n
    ·obtain ⟨a, q, e1, e2, hq1, hq3, hq5, hq6⟩ := place HD.out hlt hj0
     rw [← HN.out] at hq5
     have HPQ := hideP e2
     clear e1 e2
     obtain ⟨y, hy⟩ : ∃ y, y = t.s i j0 := ⟨_, rfl⟩
     obtain ⟨ei, hei⟩ : ∃ y, y = t.e i := ⟨_, rfl⟩
     obtain ⟨yd, hyd⟩ : ∃ z, z = mulR y dd := ⟨_, rfl⟩
     obtain ⟨ec, hec⟩ : ∃ z, z = mulR ei cc := ⟨_, rfl⟩
     obtain ⟨sn, hsn⟩ : ∃ z, z = subR yd ec := ⟨_, rfl⟩
     obtain ⟨yx, hyx⟩ : ∃ z, z = mulR y x := ⟨_, rfl⟩
     obtain ⟨en, hen⟩ : ∃ z, z = addR ei yx := ⟨_, rfl⟩
     have HSNQ := hideP (show sO kdF t.a x (t.s i j0) (t.e i) = sn from by rw [hsn, hyd, hec, hy, hei, HDD.out, HCCQ.out, HAV.out]; rfl)
     have HENQ := hideP (show kdF.add (t.e i) (kdF.mul (t.s i j0) x) = en from by rw [hen, hyx, hy, hei]; rfl)
     have HEIQ := hideP hei
     have AT := hideP (fun u (hu : Bl wr u) => by have := mAtF n n (some ⟨g, 0, none⟩) N cap (partS kdF j0 i x t) u ⟨HD.out, HN.out, (HR.out.later hu).rw.q⟩ i j0 hlt hj0; rw [partS_at, ← hy] at this; exact this)
     have HYD := hideP (fun u => by have := rmul_any y dd u; rw [← hyd] at this; exact this)
     have HEC := hideP (fun u => by have := rmul_any ei cc u; rw [← hec] at this; exact this)
     have HSN := hideP (fun u => by have := rsub_any yd ec u; rw [← hsn] at this; exact this)
     have HYX := hideP (fun u => by have := rmul_any y x u; rw [← hyx] at this; exact this)
     have HEN := hideP (fun u => by have := radd_any ei yx u; rw [← hen] at this; exact this)
     have HYQ := hideP hy
     clear hy hei hyd hec hsn hyx hen
     obtain ⟨m0', m1', m2', _, _, _, _⟩ := id mb
     go_wp2_with fail
     refine (AT.out _ (Bl.refl _)).mono ?_
     rintro e w7 ⟨rfl, h7⟩
     clear m0' m1' m2'
     obtain ⟨W7, hW7⟩ : ∃ W7, W7 = w7.alloc (.cells #[.int .i64 y.n, .int .i64 y.d, .bool y.bad] 34) := ⟨_, rfl⟩
     have b7 : Bl w7 W7 := by rw [hW7]; exact (Bl.refl _).alloc _
     have ky7 : FBox W7 w7.heap.size y := by rw [hW7]; exact FBox.new w7 y _
     have b7r : Bl wr W7 := h7.trans b7
     have hgl7 : g < w7.heap.size := Nat.lt_of_lt_of_le HR.out.glt h7.size
     have bt7 : But (fun b => b = g ∨ b = ge) w5 W7 := bt.trans (But.of_bl b7r)
     have km7 := mb.later b7r
     have kw7 : FBox W7 (w.heap.size + 1) x := ((kw.later b5).but bt (by have := hglt; have := hgelt; omega)).later b7r
     have kd7 : FBox W7 b12 dd := ((kd.later b35).but bt (by have := hglt; have := hgelt; have := lt12; omega)).later b7r
     have kc7 : FBox W7 b13' cc := (kc.but bt (by have := hglt; have := hgelt; have := lt13; have := b3.size; omega)).later b7r
     have HR7 := hideP (HR.out.later b7r)
     have HE7 := hideP (HE.out.later b7r)
     have hgl : g < W7.heap.size := HR7.out.glt
     have hgel : ge < W7.heap.size := HE7.out.glt
     have bws : w.heap.size + 1 + 1 + 1 + 1 ≤ w5.heap.size := by have := (b05.trans b5).size; omega
     have CG := hideP (show ∀ j u, (cellsF y)[j]? = some u → W7.cell? ⟨g, q * 3 + j, none⟩ = some u from fun j u hu => by
      obtain ⟨g', c', e, _, _, _, _, hc⟩ := HR7.out
      cases e
      exact hc q y (by rw [HPQ.out, mk_get _ hlt hj0, partS_at, HYQ.out]) j u hu)
     have FG := hideP (show ∀ j, W7.frozen? ⟨g, j, none⟩ = false from fun j => by
      obtain ⟨g', c', e, _, _, _, hf, _⟩ := HR7.out
      cases e
      exact hf j)
     have CE := hideP (show ∀ j u, (cellsF ei)[j]? = some u → W7.cell? ⟨ge, i * 3 + j, none⟩ = some u from fun j u hu => by
      obtain ⟨g', c', e, _, _, _, _, hc⟩ := HE7.out
      simp only [Value.slice.injEq, Option.some.injEq, Addr.mk.injEq] at e
      obtain ⟨⟨rfl, _⟩, _, rfl⟩ := e
      exact hc i ei (by rw [linJ_get _ hlt, partE_at, HEIQ.out]) j u hu)
     have WA : IntKind.i64.wrap (a : Int) = a := wrapS7 (by omega) (by have := HD.out.lt; have := HN.out; omega)
     have WQ : IntKind.i64.wrap (q : Int) = q := wrapS7 (by omega) (by have := HD.out.lt; have := HN.out; omega)
     have HW7 := hideP hW7
     clear hW7
     go_wp2_with fail
     rw [← HW7.out]
     refine (wpIn_wide (n := 8)).1 (region_q fm [some 49, some 50, some 51, some 52, some 53, some 54, some 55, some 56, some 57, some 58, some 59, some 60, some 61, some 62, some 63, some 64, some 65, some 66, some 67, some 68, some 69, some 70, none] (fun _ => false) 22 (by kernel_rfl) (by rfl)
       (fun j v u => match j with | 0 => v = .pointer (some ⟨w.heap.size, 2, none⟩) | 1 => v = .slice (some ⟨g, 0, none⟩) N cap | 2 => v = .int .i64 i | 3 => v = .pointer (some ⟨w.heap.size, 1, none⟩) | 4 => v = .int .i64 n | 5 => v = .int .i64 a | 6 => v = .int .i64 j0 | 7 => v = .int .i64 q | 8 => v = frV y | 9 => v = .iface 34 (frV y) | 10 => v = frV dd | 11 => v = frV yd | 12 => v = .iface 34 (frV yd) | 13 => v = .slice (some ⟨ge, 0, none⟩) n ce | 14 => v = .int .i64 i | 15 => v = .pointer (some ⟨ge, i * 3, none⟩) | 16 => v = frV ei | 17 => v = .iface 34 (frV ei) | 18 => v = frV cc | 19 => v = frV ec | 20 => v = frV sn | 21 => v = .pointer (some ⟨g, q * 3, none⟩) | _ => False)
       (fun j v u u' _ h => h) (fun vs u0 u => u = u0.setCells g (q * 3) (cellsF sn)) ?step ?still ?store ?fin)
     case step =>
      intro j o t act u ho hdt hpu hsz hu hfr hin
      have hj : j < 23 := (Array.getElem?_eq_some_iff.1 ho).1
      obtain ⟨m0, m1, m2, _, _, _, _⟩ := km7.later hu
      have ee0 : u.cell? ⟨ge, i * 3, none⟩ = some (.int .i64 ei.n) := (bl_cell hu _ _ hgel).trans (CE.out 0 _ rfl)
      have ee1 : u.cell? ⟨ge, i * 3 + 1, none⟩ = some (.int .i64 ei.d) := (bl_cell hu _ _ hgel).trans (CE.out 1 _ rfl)
      have ee2 : u.cell? ⟨ge, i * 3 + 2, none⟩ = some (.bool ei.bad) := (bl_cell hu _ _ hgel).trans (CE.out 2 _ rfl)
      have gg0 : u.cell? ⟨g, q * 3, none⟩ = some (.int .i64 y.n) := (bl_cell hu _ _ hgl).trans (CG.out 0 _ rfl)
      have fg0 : u.frozen? ⟨g, q * 3, none⟩ = false := (bl_froz hu _ _ hgl).trans (FG.out _)
      have gg1 : u.cell? ⟨g, q * 3 + 1, none⟩ = some (.int .i64 y.d) := (bl_cell hu _ _ hgl).trans (CG.out 1 _ rfl)
      have fg1 : u.frozen? ⟨g, q * 3 + 1, none⟩ = false := (bl_froz hu _ _ hgl).trans (FG.out _)
      have gg2 : u.cell? ⟨g, q * 3 + 2, none⟩ = some (.bool y.bad) := (bl_cell hu _ _ hgl).trans (CG.out 2 _ rfl)
      have fg2 : u.frozen? ⟨g, q * 3 + 2, none⟩ = false := (bl_froz hu _ _ hgl).trans (FG.out _)
      rcases (by omega : j = 0 ∨ j = 1 ∨ j = 2 ∨ j = 3 ∨ j = 4 ∨ j = 5 ∨ j = 6 ∨ j = 7 ∨ j = 8 ∨ j = 9 ∨ j = 10 ∨ j = 11 ∨ j = 12 ∨ j = 13 ∨ j = 14 ∨ j = 15 ∨ j = 16 ∨ j = 17 ∨ j = 18 ∨ j = 19 ∨ j = 20 ∨ j = 21 ∨ j = 22) with rfl | rfl | rfl | rfl | rfl | rfl | rfl | rfl | rfl | rfl | rfl | rfl | rfl | rfl | rfl | rfl | rfl | rfl | rfl | rfl | rfl | rfl | rfl
      ·obtain rfl := Option.some.inj (opXE ho)
       obtain rfl := Option.some.inj hdt
       have i5 : act.eval (.tmp (5 : Nat)) = .pointer (some ⟨w.heap.size, 0, none⟩) := hfr 5 (by decide)
       exact plain_wp (by intro c h; cases h) (fun _ _ => trivial) (by simp only [execOp, i5, evalC, evalF, evalG]; simp [go_sem, m0, m1, m2]) ⟨_, rfl, rfl, Bl.refl _⟩
      ·obtain rfl := Option.some.inj (opXE ho)
       obtain rfl := Option.some.inj hdt
       have i49 : (act.eval (.tmp (49 : Nat))) = .pointer (some ⟨w.heap.size, 2, none⟩) := hin ⟨0, .data⟩ (by simp) rfl 49 rfl
       exact plain_wp (by intro c h; cases h) (fun _ _ => trivial) (by simp only [execOp, i49, evalC, evalF, evalG]; simp [go_sem, m0, m1, m2]) ⟨_, rfl, rfl, Bl.refl _⟩
      ·obtain rfl := Option.some.inj (opXE ho)
       obtain rfl := Option.some.inj hdt
       have i14 : act.eval (.tmp (14 : Nat)) = .int .i64 i := hfr 14 (by decide)
       exact plain_wp (by intro c h; cases h) (fun _ _ => trivial) (by simp only [execOp, i14, evalC, evalF, evalG]; simp [go_sem, m0]) ⟨_, rfl, rfl, Bl.refl _⟩
      ·obtain rfl := Option.some.inj (opXE ho)
       obtain rfl := Option.some.inj hdt
       have i5 : act.eval (.tmp (5 : Nat)) = .pointer (some ⟨w.heap.size, 0, none⟩) := hfr 5 (by decide)
       exact plain_wp (by intro c h; cases h) (fun _ _ => trivial) (by simp only [execOp, i5, evalC, evalF, evalG]; simp [go_sem, m0, m1, m2]) ⟨_, rfl, rfl, Bl.refl _⟩
      ·obtain rfl := Option.some.inj (opXE ho)
       obtain rfl := Option.some.inj hdt
       have i52 : (act.eval (.tmp (52 : Nat))) = .pointer (some ⟨w.heap.size, 1, none⟩) := hin ⟨3, .data⟩ (by simp) rfl 52 rfl
       exact plain_wp (by intro c h; cases h) (fun _ _ => trivial) (by simp only [execOp, i52, evalC, evalF, evalG]; simp [go_sem, m0, m1, m2]) ⟨_, rfl, rfl, Bl.refl _⟩
      ·obtain rfl := Option.some.inj (opXE ho)
       obtain rfl := Option.some.inj hdt
       have i51 : (act.eval (.tmp (51 : Nat))) = .int .i64 i := hin ⟨2, .data⟩ (by simp) rfl 51 rfl
       have i53 : (act.eval (.tmp (53 : Nat))) = .int .i64 n := hin ⟨4, .data⟩ (by simp) rfl 53 rfl
       exact plain_wp (by intro c h; cases h) (fun _ _ => trivial) (by simp only [execOp, i51, i53, evalC, evalF, evalG]; simp [go_sem, hq1, WA]) ⟨_, rfl, rfl, Bl.refl _⟩
      ·obtain rfl := Option.some.inj (opXE ho)
       obtain rfl := Option.some.inj hdt
       have i2 : act.eval (.tmp (2 : Nat)) = .int .i64 j0 := hfr 2 (by decide)
       exact plain_wp (by intro c h; cases h) (fun _ _ => trivial) (by simp only [execOp, i2, evalC, evalF, evalG]; simp [go_sem, m0]) ⟨_, rfl, rfl, Bl.refl _⟩
      ·obtain rfl := Option.some.inj (opXE ho)
       obtain rfl := Option.some.inj hdt
       have i54 : (act.eval (.tmp (54 : Nat))) = .int .i64 a := hin ⟨5, .data⟩ (by simp) rfl 54 rfl
       have i55 : (act.eval (.tmp (55 : Nat))) = .int .i64 j0 := hin ⟨6, .data⟩ (by simp) rfl 55 rfl
       exact plain_wp (by intro c h; cases h) (fun _ _ => trivial) (by simp only [execOp, i54, i55, evalC, evalF, evalG]; simp [go_sem, hq3, WQ]) ⟨_, rfl, rfl, Bl.refl _⟩
      ·obtain rfl := Option.some.inj (opXE ho)
       obtain rfl := Option.some.inj hdt
       have i15 : act.eval (.tmp (15 : Nat)) = .pointer (some ⟨w7.heap.size, 0, none⟩) := hfr 15 (by decide)
       obtain ⟨c0, c1, c2, f0, f1, f2, _⟩ := ky7.later hu
       exact plain_wp (by intro c h; cases h) (fun _ _ => trivial) (by simp only [execOp, i15, evalC, evalF, evalG]; simp [go_sem, c0, c1, c2]) ⟨_, rfl, rfl, Bl.refl _⟩
      ·obtain rfl := Option.some.inj (opXE ho)
       obtain rfl := Option.some.inj hdt
       have i57 : (act.eval (.tmp (57 : Nat))) = frV y := hin ⟨8, .data⟩ (by simp) rfl 57 rfl
       exact plain_wp (by intro c h; cases h) (fun _ _ => trivial) (by simp only [execOp, i57, evalC, evalF, evalG]; simp [go_sem]) ⟨_, rfl, rfl, Bl.refl _⟩
      ·obtain rfl := Option.some.inj (opXE ho)
       obtain rfl := Option.some.inj hdt
       have i12 : act.eval (.tmp (12 : Nat)) = .pointer (some ⟨b12, 0, none⟩) := hfr 12 (by decide)
       obtain ⟨c0, c1, c2, f0, f1, f2, _⟩ := kd7.later hu
       exact plain_wp (by intro c h; cases h) (fun _ _ => trivial) (by simp only [execOp, i12, evalC, evalF, evalG]; simp [go_sem, c0, c1, c2]) ⟨_, rfl, rfl, Bl.refl _⟩
      ·obtain rfl := Option.some.inj (opXE ho)
       obtain rfl := Option.some.inj hdt
       have i58 : (act.eval (.tmp (58 : Nat))) = .iface 34 (frV y) := hin ⟨9, .data⟩ (by simp) rfl 58 rfl
       have i59 : (act.eval (.tmp (59 : Nat))) = frV dd := hin ⟨10, .data⟩ (by simp) rfl 59 rfl
       have iv := Tryz.mMulF
       refine enter_wp 187 #[frV y, frV dd] (by intro c h; cases h) (fun _ _ => trivial) (by simp only [execOp, evalC, evalF, evalG, resolve, i58, i59, List.map_toArray, List.map_cons, List.map_nil]; simp [invoke, iv, egM, Result.andThen, go_sem]) (by intro h; cases h) (callsIn_wide.2 (HYD.out u)) ?_
       rintro e w' ⟨rfl, hb⟩
       exact ⟨_, rfl, _, rfl, rfl, hb⟩
      ·obtain rfl := Option.some.inj (opXE ho)
       obtain rfl := Option.some.inj hdt
       have i60 : (act.eval (.tmp (60 : Nat))) = frV yd := hin ⟨11, .data⟩ (by simp) rfl 60 rfl
       exact plain_wp (by intro c h; cases h) (fun _ _ => trivial) (by simp only [execOp, i60, evalC, evalF, evalG]; simp [go_sem]) ⟨_, rfl, rfl, Bl.refl _⟩
      ·obtain rfl := Option.some.inj (opXE ho)
       obtain rfl := Option.some.inj hdt
       have i1 : act.eval (.tmp (1 : Nat)) = .slice (some ⟨ge, 0, none⟩) n ce := hfr 1 (by decide)
       exact plain_wp (by intro c h; cases h) (fun _ _ => trivial) (by simp only [execOp, i1, evalC, evalF, evalG]; simp [go_sem, m0]) ⟨_, rfl, rfl, Bl.refl _⟩
      ·obtain rfl := Option.some.inj (opXE ho)
       obtain rfl := Option.some.inj hdt
       have i14 : act.eval (.tmp (14 : Nat)) = .int .i64 i := hfr 14 (by decide)
       exact plain_wp (by intro c h; cases h) (fun _ _ => trivial) (by simp only [execOp, i14, evalC, evalF, evalG]; simp [go_sem, m0]) ⟨_, rfl, rfl, Bl.refl _⟩
      ·obtain rfl := Option.some.inj (opXE ho)
       obtain rfl := Option.some.inj hdt
       have i62 : (act.eval (.tmp (62 : Nat))) = .slice (some ⟨ge, 0, none⟩) n ce := hin ⟨13, .data⟩ (by simp) rfl 62 rfl
       have i63 : (act.eval (.tmp (63 : Nat))) = .int .i64 i := hin ⟨14, .data⟩ (by simp) rfl 63 rfl
       exact plain_wp (by intro c h; cases h) (fun _ _ => trivial) (by simp only [execOp, i62, i63, evalC, evalF, evalG]; simp [go_sem, hlt, ee0, ee1, ee2]) ⟨_, rfl, rfl, Bl.refl _⟩
      ·obtain rfl := Option.some.inj (opXE ho)
       obtain rfl := Option.some.inj hdt
       have i64 : (act.eval (.tmp (64 : Nat))) = .pointer (some ⟨ge, i * 3, none⟩) := hin ⟨15, .data⟩ (by simp) rfl 64 rfl
       exact plain_wp (by intro c h; cases h) (fun _ _ => trivial) (by simp only [execOp, i64, evalC, evalF, evalG]; simp [go_sem, ee0, ee1, ee2]) ⟨_, rfl, rfl, Bl.refl _⟩
      ·obtain rfl := Option.some.inj (opXE ho)
       obtain rfl := Option.some.inj hdt
       have i65 : (act.eval (.tmp (65 : Nat))) = frV ei := hin ⟨16, .data⟩ (by simp) rfl 65 rfl
       exact plain_wp (by intro c h; cases h) (fun _ _ => trivial) (by simp only [execOp, i65, evalC, evalF, evalG]; simp [go_sem]) ⟨_, rfl, rfl, Bl.refl _⟩
      ·obtain rfl := Option.some.inj (opXE ho)
       obtain rfl := Option.some.inj hdt
       have i13 : act.eval (.tmp (13 : Nat)) = .pointer (some ⟨b13', 0, none⟩) := hfr 13 (by decide)
       obtain ⟨c0, c1, c2, f0, f1, f2, _⟩ := kc7.later hu
       exact plain_wp (by intro c h; cases h) (fun _ _ => trivial) (by simp only [execOp, i13, evalC, evalF, evalG]; simp [go_sem, c0, c1, c2]) ⟨_, rfl, rfl, Bl.refl _⟩
      ·obtain rfl := Option.some.inj (opXE ho)
       obtain rfl := Option.some.inj hdt
       have i66 : (act.eval (.tmp (66 : Nat))) = .iface 34 (frV ei) := hin ⟨17, .data⟩ (by simp) rfl 66 rfl
       have i67 : (act.eval (.tmp (67 : Nat))) = frV cc := hin ⟨18, .data⟩ (by simp) rfl 67 rfl
       have iv := Tryz.mMulF
       refine enter_wp 187 #[frV ei, frV cc] (by intro c h; cases h) (fun _ _ => trivial) (by simp only [execOp, evalC, evalF, evalG, resolve, i66, i67, List.map_toArray, List.map_cons, List.map_nil]; simp [invoke, iv, egM, Result.andThen, go_sem]) (by intro h; cases h) (callsIn_wide.2 (HEC.out u)) ?_
       rintro e w' ⟨rfl, hb⟩
       exact ⟨_, rfl, _, rfl, rfl, hb⟩
      ·obtain rfl := Option.some.inj (opXE ho)
       obtain rfl := Option.some.inj hdt
       have i61 : (act.eval (.tmp (61 : Nat))) = .iface 34 (frV yd) := hin ⟨12, .data⟩ (by simp) rfl 61 rfl
       have i68 : (act.eval (.tmp (68 : Nat))) = frV ec := hin ⟨19, .data⟩ (by simp) rfl 68 rfl
       have iv := Tryz.mSubF
       refine enter_wp 192 #[frV yd, frV ec] (by intro c h; cases h) (fun _ _ => trivial) (by simp only [execOp, evalC, evalF, evalG, resolve, i61, i68, List.map_toArray, List.map_cons, List.map_nil]; simp [invoke, iv, egS, Result.andThen, go_sem]) (by intro h; cases h) (callsIn_wide.2 (HSN.out u)) ?_
       rintro e w' ⟨rfl, hb⟩
       exact ⟨_, rfl, _, rfl, rfl, hb⟩
      ·obtain rfl := Option.some.inj (opXE ho)
       obtain rfl := Option.some.inj hdt
       have i50 : (act.eval (.tmp (50 : Nat))) = .slice (some ⟨g, 0, none⟩) N cap := hin ⟨1, .data⟩ (by simp) rfl 50 rfl
       have i56 : (act.eval (.tmp (56 : Nat))) = .int .i64 q := hin ⟨7, .data⟩ (by simp) rfl 56 rfl
       exact plain_wp (by intro c h; cases h) (fun _ _ => trivial) (by simp only [execOp, i50, i56, evalC, evalF, evalG]; simp [go_sem, hq5, gg0, fg0, gg1, fg1, gg2, fg2]) ⟨_, rfl, rfl, Bl.refl _⟩
      ·obtain rfl := Option.some.inj (opXE ho)
       cases hdt
     case still =>
      intro j o t act u0 u ho hdt hpu
      cases hpu
     case store =>
      intro o act u vs ho hsz hu hfr hin
      obtain rfl := Option.some.inj (opXE ho)
      obtain ⟨i69, k69⟩ : act.eval (.tmp (69 : Nat)) = vs 20 ∧ ((vs 20) = frV sn) := hin 20 69 rfl rfl
      obtain ⟨i70, k70⟩ : act.eval (.tmp (70 : Nat)) = vs 21 ∧ ((vs 21) = .pointer (some ⟨g, q * 3, none⟩)) := hin 21 70 rfl rfl
      have gg0 : u.cell? ⟨g, q * 3, none⟩ = some (.int .i64 y.n) := (bl_cell hu _ _ hgl).trans (CG.out 0 _ rfl)
      have fg0 : u.frozen? ⟨g, q * 3, none⟩ = false := (bl_froz hu _ _ hgl).trans (FG.out _)
      have gg1 : u.cell? ⟨g, q * 3 + 1, none⟩ = some (.int .i64 y.d) := (bl_cell hu _ _ hgl).trans (CG.out 1 _ rfl)
      have fg1 : u.frozen? ⟨g, q * 3 + 1, none⟩ = false := (bl_froz hu _ _ hgl).trans (FG.out _)
      have gg2 : u.cell? ⟨g, q * 3 + 2, none⟩ = some (.bool y.bad) := (bl_cell hu _ _ hgl).trans (CG.out 2 _ rfl)
      have fg2 : u.frozen? ⟨g, q * 3 + 2, none⟩ = false := (bl_froz hu _ _ hgl).trans (FG.out _)
      replace i70 := i70.trans k70
      replace i69 := i69.trans k69
      exact skip_wp (by intro c h; cases h) (fun _ _ => trivial) (by simp only [execOp, i70, i69]; simp [go_sem, gg0, fg0, gg1, fg1, gg2, fg2]; rfl) ⟨rfl, rfl⟩
     case fin =>
      intro vs vb u0 u hu hin hps
      have a0 := hin 0 49 rfl
      have a1 := hin 1 50 rfl
      have a2 := hin 2 51 rfl
      have a3 := hin 3 52 rfl
      have a4 := hin 4 53 rfl
      have a5 := hin 5 54 rfl
      have a6 := hin 6 55 rfl
      have a7 := hin 7 56 rfl
      have a8 := hin 8 57 rfl
      have a9 := hin 9 58 rfl
      have a10 := hin 10 59 rfl
      have a11 := hin 11 60 rfl
      have a12 := hin 12 61 rfl
      have a13 := hin 13 62 rfl
      have a14 := hin 14 63 rfl
      have a15 := hin 15 64 rfl
      have a16 := hin 16 65 rfl
      have a17 := hin 17 66 rfl
      have a18 := hin 18 67 rfl
      have a19 := hin 19 68 rfl
      have a20 := hin 20 69 rfl
      have a21 := hin 21 70 rfl
      simp only [putL, Act.put, List.setIfInBounds_toArray, List.set_cons_zero, List.set_cons_succ, Nat.zero_add, Nat.reduceAdd, Nat.reduceBEq, Bool.or_false, Bool.or_true, Bool.false_or, Bool.true_or, Bool.false_eq_true, if_false, if_true, reduceIte, Nat.reduceEqDiff, beq_self_eq_true, Bool.or_self] at a0 a1 a2 a3 a4 a5 a6 a7 a8 a9 a10 a11 a12 a13 a14 a15 a16 a17 a18 a19 a20 a21 ⊢
      rw [if_pos (by decide)] at hps
      simp only [a0, a1, a2, a3, a4, a5, a6, a7, a8, a9, a10, a11, a12, a13, a14, a15, a16, a17, a18, a19, a20, a21]
      have hq' : q < (mk n n (partS kdF j0 i x t)).length := by rw [mk_len, ← HN.out]; exact hq5
      have PUT := hideP ((HR7.out.later hu).putAt cellsF_len hq' sn)
      rw [HPQ.out, mk_put hlt hj0, ← HPQ.out, ← hps] at PUT
      obtain ⟨w8, hw8⟩ : ∃ w8, w8 = u := ⟨_, rfl⟩
      subst hw8
      have HS8 := hideP (show RwZ 3 cellsF w8 lo (.slice (some ⟨g, 0, none⟩) N cap) (mk n n (partS kdF j0 (i + 1) x t)) from by rw [partS_next kdF hji, HSNQ.out]; exact PUT.out)
      have HE8 := hideP (show RwZ 3 cellsF w8 lo (.slice (some ⟨ge, 0, none⟩) n ce) (linJ n (partE kdF j0 i x t)) from by rw [hps]; exact (HE7.out.later hu).but (S := fun b => b = g) (but_setCells (S := fun b => b = g) (b := g) rfl _ _ _ _ (But.refl _ _)) (fun b hb => by cases hb; exact fun e => hne e.symm))
      have bt78 : But (fun b => b = g) W7 w8 := by rw [hps]; exact (But.of_bl hu).trans (but_setCells (S := fun b => b = g) (b := g) rfl _ _ _ _ (But.refl _ _))
      have bt8 : But (fun b => b = g ∨ b = ge) w5 w8 := bt7.trans (bt78.mono fun _ h => .inl h)
      have kw8 : FBox w8 (w.heap.size + 1) x := kw7.but bt78 (by have := hglt; have := bws; omega)
      have ky8 : FBox w8 w7.heap.size y := ky7.but bt78 (by have := hgl7; omega)
      have CE8 := hideP (show ∀ j u, (cellsF ei)[j]? = some u → w8.cell? ⟨ge, i * 3 + j, none⟩ = some u from fun j u hu => by
       obtain ⟨g', c', e, _, _, _, _, hc⟩ := HE8.out
       simp only [Value.slice.injEq, Option.some.injEq, Addr.mk.injEq] at e
       obtain ⟨⟨rfl, _⟩, _, rfl⟩ := e
       exact hc i ei (by rw [linJ_get _ hlt, partE_at, HEIQ.out]) j u hu)
      have FE8 := hideP (show ∀ j, w8.frozen? ⟨ge, j, none⟩ = false from fun j => by
       obtain ⟨g', c', e, _, _, _, hf, _⟩ := HE8.out
       simp only [Value.slice.injEq, Option.some.injEq, Addr.mk.injEq] at e
       obtain ⟨⟨rfl, _⟩, _, rfl⟩ := e
       exact hf j)
      have hgel8 : ge < w8.heap.size := HE8.out.glt
      clear hps hu PUT CE FG CG km7 kd7 kc7 kw7 ky7
      go_wp2_with fail
      refine (wpIn_wide (n := 8)).1 (region_q fm [some 71, some 72, some 73, some 74, some 75, some 76, some 77, some 78, some 79, some 80, some 81, some 82, some 83, none] (fun _ => false) 13 (by kernel_rfl) (by rfl)
           (fun j v u => match j with | 0 => v = .slice (some ⟨ge, 0, none⟩) n ce | 1 => v = .int .i64 i | 2 => v = .slice (some ⟨ge, 0, none⟩) n ce | 3 => v = .int .i64 i | 4 => v = .pointer (some ⟨ge, i * 3, none⟩) | 5 => v = frV ei | 6 => v = .iface 34 (frV ei) | 7 => v = frV y | 8 => v = .iface 34 (frV y) | 9 => v = frV x | 10 => v = frV yx | 11 => v = frV en | 12 => v = .pointer (some ⟨ge, i * 3, none⟩) | _ => False)
           (fun j v u u' _ h => h) (fun vs u0 u => u = u0.setCells ge (i * 3) (cellsF en)) ?step ?still ?store ?fin)
      case step =>
       intro j o t act u ho hdt hpu hsz hu hfr hin
       have hj : j < 14 := (Array.getElem?_eq_some_iff.1 ho).1
       have ee0 : u.cell? ⟨ge, i * 3, none⟩ = some (.int .i64 ei.n) := (bl_cell hu _ _ hgel8).trans (CE8.out 0 _ rfl)
       have fe0 : u.frozen? ⟨ge, i * 3, none⟩ = false := (bl_froz hu _ _ hgel8).trans (FE8.out _)
       have ee1 : u.cell? ⟨ge, i * 3 + 1, none⟩ = some (.int .i64 ei.d) := (bl_cell hu _ _ hgel8).trans (CE8.out 1 _ rfl)
       have fe1 : u.frozen? ⟨ge, i * 3 + 1, none⟩ = false := (bl_froz hu _ _ hgel8).trans (FE8.out _)
       have ee2 : u.cell? ⟨ge, i * 3 + 2, none⟩ = some (.bool ei.bad) := (bl_cell hu _ _ hgel8).trans (CE8.out 2 _ rfl)
       have fe2 : u.frozen? ⟨ge, i * 3 + 2, none⟩ = false := (bl_froz hu _ _ hgel8).trans (FE8.out _)
       rcases (by omega : j = 0 ∨ j = 1 ∨ j = 2 ∨ j = 3 ∨ j = 4 ∨ j = 5 ∨ j = 6 ∨ j = 7 ∨ j = 8 ∨ j = 9 ∨ j = 10 ∨ j = 11 ∨ j = 12 ∨ j = 13) with rfl | rfl | rfl | rfl | rfl | rfl | rfl | rfl | rfl | rfl | rfl | rfl | rfl | rfl
       ·obtain rfl := Option.some.inj (opXE ho)
        obtain rfl := Option.some.inj hdt
        have i1 : act.eval (.tmp (1 : Nat)) = .slice (some ⟨ge, 0, none⟩) n ce := hfr 1 (by decide)
        exact plain_wp (by intro c h; cases h) (fun _ _ => trivial) (by simp only [execOp, i1, evalC, evalF, evalG]; simp [go_sem, hlt]) ⟨_, rfl, rfl, Bl.refl _⟩
       ·obtain rfl := Option.some.inj (opXE ho)
        obtain rfl := Option.some.inj hdt
        have i14 : act.eval (.tmp (14 : Nat)) = .int .i64 i := hfr 14 (by decide)
        exact plain_wp (by intro c h; cases h) (fun _ _ => trivial) (by simp only [execOp, i14, evalC, evalF, evalG]; simp [go_sem, hlt]) ⟨_, rfl, rfl, Bl.refl _⟩
       ·obtain rfl := Option.some.inj (opXE ho)
        obtain rfl := Option.some.inj hdt
        have i1 : act.eval (.tmp (1 : Nat)) = .slice (some ⟨ge, 0, none⟩) n ce := hfr 1 (by decide)
        exact plain_wp (by intro c h; cases h) (fun _ _ => trivial) (by simp only [execOp, i1, evalC, evalF, evalG]; simp [go_sem, hlt]) ⟨_, rfl, rfl, Bl.refl _⟩
       ·obtain rfl := Option.some.inj (opXE ho)
        obtain rfl := Option.some.inj hdt
        have i14 : act.eval (.tmp (14 : Nat)) = .int .i64 i := hfr 14 (by decide)
        exact plain_wp (by intro c h; cases h) (fun _ _ => trivial) (by simp only [execOp, i14, evalC, evalF, evalG]; simp [go_sem, hlt]) ⟨_, rfl, rfl, Bl.refl _⟩
       ·obtain rfl := Option.some.inj (opXE ho)
        obtain rfl := Option.some.inj hdt
        have i73 : (act.eval (.tmp (73 : Nat))) = .slice (some ⟨ge, 0, none⟩) n ce := hin ⟨2, .data⟩ (by simp) rfl 73 rfl
        have i74 : (act.eval (.tmp (74 : Nat))) = .int .i64 i := hin ⟨3, .data⟩ (by simp) rfl 74 rfl
        exact plain_wp (by intro c h; cases h) (fun _ _ => trivial) (by simp only [execOp, i73, i74, evalC, evalF, evalG]; simp [go_sem, hlt, ee0, ee1, ee2]) ⟨_, rfl, rfl, Bl.refl _⟩
       ·obtain rfl := Option.some.inj (opXE ho)
        obtain rfl := Option.some.inj hdt
        have i75 : (act.eval (.tmp (75 : Nat))) = .pointer (some ⟨ge, i * 3, none⟩) := hin ⟨4, .data⟩ (by simp) rfl 75 rfl
        exact plain_wp (by intro c h; cases h) (fun _ _ => trivial) (by simp only [execOp, i75, evalC, evalF, evalG]; simp [go_sem, ee0, ee1, ee2]) ⟨_, rfl, rfl, Bl.refl _⟩
       ·obtain rfl := Option.some.inj (opXE ho)
        obtain rfl := Option.some.inj hdt
        have i76 : (act.eval (.tmp (76 : Nat))) = frV ei := hin ⟨5, .data⟩ (by simp) rfl 76 rfl
        exact plain_wp (by intro c h; cases h) (fun _ _ => trivial) (by simp only [execOp, i76, evalC, evalF, evalG]; simp [go_sem]) ⟨_, rfl, rfl, Bl.refl _⟩
       ·obtain rfl := Option.some.inj (opXE ho)
        obtain rfl := Option.some.inj hdt
        have i15 : act.eval (.tmp (15 : Nat)) = .pointer (some ⟨w7.heap.size, 0, none⟩) := hfr 15 (by decide)
        obtain ⟨c0, c1, c2, f0, f1, f2, _⟩ := ky8.later hu
        exact plain_wp (by intro c h; cases h) (fun _ _ => trivial) (by simp only [execOp, i15, evalC, evalF, evalG]; simp [go_sem, c0, c1, c2]) ⟨_, rfl, rfl, Bl.refl _⟩
       ·obtain rfl := Option.some.inj (opXE ho)
        obtain rfl := Option.some.inj hdt
        have i78 : (act.eval (.tmp (78 : Nat))) = frV y := hin ⟨7, .data⟩ (by simp) rfl 78 rfl
        exact plain_wp (by intro c h; cases h) (fun _ _ => trivial) (by simp only [execOp, i78, evalC, evalF, evalG]; simp [go_sem]) ⟨_, rfl, rfl, Bl.refl _⟩
       ·obtain rfl := Option.some.inj (opXE ho)
        obtain rfl := Option.some.inj hdt
        have i8 : act.eval (.tmp (8 : Nat)) = .pointer (some ⟨w.heap.size + 1, 0, none⟩) := hfr 8 (by decide)
        obtain ⟨c0, c1, c2, f0, f1, f2, _⟩ := kw8.later hu
        exact plain_wp (by intro c h; cases h) (fun _ _ => trivial) (by simp only [execOp, i8, evalC, evalF, evalG]; simp [go_sem, c0, c1, c2]) ⟨_, rfl, rfl, Bl.refl _⟩
       ·obtain rfl := Option.some.inj (opXE ho)
        obtain rfl := Option.some.inj hdt
        have i79 : (act.eval (.tmp (79 : Nat))) = .iface 34 (frV y) := hin ⟨8, .data⟩ (by simp) rfl 79 rfl
        have i80 : (act.eval (.tmp (80 : Nat))) = frV x := hin ⟨9, .data⟩ (by simp) rfl 80 rfl
        have iv := Tryz.mMulF
        refine enter_wp 187 #[frV y, frV x] (by intro c h; cases h) (fun _ _ => trivial) (by simp only [execOp, evalC, evalF, evalG, resolve, i79, i80, List.map_toArray, List.map_cons, List.map_nil]; simp [invoke, iv, egM, Result.andThen, go_sem]) (by intro h; cases h) (callsIn_wide.2 (HYX.out u)) ?_
        rintro e w' ⟨rfl, hb⟩
        exact ⟨_, rfl, _, rfl, rfl, hb⟩
       ·obtain rfl := Option.some.inj (opXE ho)
        obtain rfl := Option.some.inj hdt
        have i77 : (act.eval (.tmp (77 : Nat))) = .iface 34 (frV ei) := hin ⟨6, .data⟩ (by simp) rfl 77 rfl
        have i81 : (act.eval (.tmp (81 : Nat))) = frV yx := hin ⟨10, .data⟩ (by simp) rfl 81 rfl
        have iv := Tryz.mAddF
        refine enter_wp 184 #[frV ei, frV yx] (by intro c h; cases h) (fun _ _ => trivial) (by simp only [execOp, evalC, evalF, evalG, resolve, i77, i81, List.map_toArray, List.map_cons, List.map_nil]; simp [invoke, iv, egA, Result.andThen, go_sem]) (by intro h; cases h) (callsIn_wide.2 (HEN.out u)) ?_
        rintro e w' ⟨rfl, hb⟩
        exact ⟨_, rfl, _, rfl, rfl, hb⟩
       ·obtain rfl := Option.some.inj (opXE ho)
        obtain rfl := Option.some.inj hdt
        have i71 : (act.eval (.tmp (71 : Nat))) = .slice (some ⟨ge, 0, none⟩) n ce := hin ⟨0, .data⟩ (by simp) rfl 71 rfl
        have i72 : (act.eval (.tmp (72 : Nat))) = .int .i64 i := hin ⟨1, .data⟩ (by simp) rfl 72 rfl
        exact plain_wp (by intro c h; cases h) (fun _ _ => trivial) (by simp only [execOp, i71, i72, evalC, evalF, evalG]; simp [go_sem, hlt, ee0, ee1, ee2]) ⟨_, rfl, rfl, Bl.refl _⟩
       ·obtain rfl := Option.some.inj (opXE ho)
        cases hdt
      case still =>
       intro j o t act u0 u ho hdt hpu
       cases hpu
      case store =>
       intro o act u vs ho hsz hu hfr hin
       obtain rfl := Option.some.inj (opXE ho)
       obtain ⟨i82, k82⟩ : act.eval (.tmp (82 : Nat)) = vs 11 ∧ ((vs 11) = frV en) := hin 11 82 rfl rfl
       obtain ⟨i83, k83⟩ : act.eval (.tmp (83 : Nat)) = vs 12 ∧ ((vs 12) = .pointer (some ⟨ge, i * 3, none⟩)) := hin 12 83 rfl rfl
       have ee0 : u.cell? ⟨ge, i * 3, none⟩ = some (.int .i64 ei.n) := (bl_cell hu _ _ hgel8).trans (CE8.out 0 _ rfl)
       have fe0 : u.frozen? ⟨ge, i * 3, none⟩ = false := (bl_froz hu _ _ hgel8).trans (FE8.out _)
       have ee1 : u.cell? ⟨ge, i * 3 + 1, none⟩ = some (.int .i64 ei.d) := (bl_cell hu _ _ hgel8).trans (CE8.out 1 _ rfl)
       have fe1 : u.frozen? ⟨ge, i * 3 + 1, none⟩ = false := (bl_froz hu _ _ hgel8).trans (FE8.out _)
       have ee2 : u.cell? ⟨ge, i * 3 + 2, none⟩ = some (.bool ei.bad) := (bl_cell hu _ _ hgel8).trans (CE8.out 2 _ rfl)
       have fe2 : u.frozen? ⟨ge, i * 3 + 2, none⟩ = false := (bl_froz hu _ _ hgel8).trans (FE8.out _)
       replace i83 := i83.trans k83
       replace i82 := i82.trans k82
       exact skip_wp (by intro c h; cases h) (fun _ _ => trivial) (by simp only [execOp, i83, i82]; simp [go_sem, ee0, fe0, ee1, fe1, ee2, fe2]; rfl) ⟨rfl, rfl⟩
      case fin =>
       intro vs vb u0 u hu hin hps
       have a0 := hin 0 71 rfl
       have a1 := hin 1 72 rfl
       have a2 := hin 2 73 rfl
       have a3 := hin 3 74 rfl
       have a4 := hin 4 75 rfl
       have a5 := hin 5 76 rfl
       have a6 := hin 6 77 rfl
       have a7 := hin 7 78 rfl
       have a8 := hin 8 79 rfl
       have a9 := hin 9 80 rfl
       have a10 := hin 10 81 rfl
       have a11 := hin 11 82 rfl
       have a12 := hin 12 83 rfl
       simp only [putL, Act.put, List.setIfInBounds_toArray, List.set_cons_zero, List.set_cons_succ, Nat.zero_add, Nat.reduceAdd, Nat.reduceBEq, Bool.or_false, Bool.or_true, Bool.false_or, Bool.true_or, Bool.false_eq_true, if_false, if_true, reduceIte, Nat.reduceEqDiff, beq_self_eq_true, Bool.or_self] at a0 a1 a2 a3 a4 a5 a6 a7 a8 a9 a10 a11 a12 ⊢
       rw [if_pos (by decide)] at hps
       simp only [a0, a1, a2, a3, a4, a5, a6, a7, a8, a9, a10, a11, a12]
       have hie : i < (linJ n (partE kdF j0 i x t)).length := by rw [linJ_len]; exact hlt
       have PUT9 := hideP ((HE8.out.later hu).putAt cellsF_len hie en)
       rw [linJ_set9F _ hlt, ← hps] at PUT9
       have HS9 := hideP (show RwZ 3 cellsF u lo (.slice (some ⟨g, 0, none⟩) N cap) (mk n n (partS kdF j0 (i + 1) x t)) from by rw [hps]; exact (HS8.out.later hu).but (S := fun b => b = ge) (but_setCells (S := fun b => b = ge) (b := ge) rfl _ _ _ _ (But.refl _ _)) (fun b hb => by cases hb; exact hne))
       have bt9 : But (fun b => b = g ∨ b = ge) w5 u := by rw [hps]; exact bt8.trans ((But.of_bl hu).trans ((but_setCells (S := fun b => b = ge) (b := ge) rfl _ _ _ _ (But.refl _ _)).mono fun _ h => .inr h))
       clear hps hu
       go_wp2
       go_roundw
       case rel => exact ⟨i + 1, by simp, by omega, by omega, HS9.out, by rw [show partE kdF j0 (i + 1) x t = fun r => if r = i then en else partE kdF j0 i x t r from by funext r; rw [partE_next kdF hji, HENQ.out]]; exact PUT9.out, bt9⟩
       case measure => simp [intOf]; omega
    ·obtain rfl : i = n := by omega
     obtain ⟨m0', m1', m2', _, _, _, _⟩ := id mb
     have kb9 : FBox wr b11 bb := (kb.later b15').but bt (by have := hglt; have := hgelt; have := lt11; omega)
     have kz9 : FBox wr (w.heap.size + 1 + 1 + 1) zeroR := (kz.later b5).but bt (by have := hglt; have := hgelt; omega)
     obtain ⟨c0, c1, c2, f0, f1, f2, _⟩ := id kb9
     obtain ⟨d0, d1, d2, g0, g1, g2, _⟩ := id kz9
     go_wp2
     simp [bodyPost, results, Tryz.results115, go_sem, c0, c1, c2, f0, f1, f2, d0, d1, d2, g0, g1, g2]
     exact ⟨HR.out.but (butRF _ _ _ _ _) (fun b hb => by cases hb; show ¬ g = w.heap.size + 1 + 1 + 1; omega), HE.out.but (butRF _ _ _ _ _) (fun b hb => by cases hb; show ¬ ge = w.heap.size + 1 + 1 + 1; omega), ((But.of_bl (b0.trans b5)).trans bt).put (butRF _ _ _ _ _) (by omega)⟩
theorem rw_run {α : Type} {F : Fence} {n : Nat} {P : Program} {l B : Nat} {w W1 : World} (hB : B ≤ l) (hb : Bl w W1) (hlt1 : B ≤ W1.heap.size) {r : Loop} (hst : r.state = .ready) (hpe : r.pending = none) (hfn : F.fn r.fn)
  {gf : Nat} {lb : Array Value} {encs : α → Array Value} {V : α → World → World → Prop} {Kp : World → World → Prop} {S Sp : List α → Prop} {N : Nat} (hseq : SeqV F n P gf lb encs V Kp S Sp N w) (hV : ∀ x A B, V x A B → Bl A B)
  (hps : ∀ x, (encs x).size = r.params.size)
  (hKt : ∀ {A B C : World}, Kp A B → Kp B C → Kp A C) (hKb : ∀ (W : World) (l : Nat) (o o' : Obj), B ≤ l → W.heap[l]? = some o → o.isCells = false → o.isWalk = false → Kp W (W.putObj l o'))
  {I : List α → World → Prop} {Ix : Code → List α → World → Prop} (hI : OwnFrom B I) (hIx : ∀ c, OwnFrom B (Ix c)) {Ax : List α → α → Act → World → Prop} (hAx : ∀ pre x a', OwnFrom B (fun (_ : Unit) W => Ax pre x a' W))
  (hl : W1.heap[l]? = some (.loop r)) (h0 : I [] W1) (D : Nat) (od : Obj) (hD : B ≤ D) (hDl : D ≠ l) (hod : W1.heap[D]? = some od ∨ W1.heap.size ≤ D) (hoc : od.isCells = false) (how : od.isWalk = false)
  (hassign : ∀ (pre : List α) (x : α) (W0 W : World) (K : Act → World → Prop), I pre W0 → V x W0 W → I pre W → (∀ a' W', KeepsFrom B W W' → Kp W W' → I pre W' → Ax pre x a' W' → K a' W') →
   r.assign.wpIn (F.inRound l) (n - 1) P (Exit.then K (fun _ _ _ => False)) { tmps := (r.params.zip (encs x)).foldl (fun t (p, v) => t.setIfInBounds p v) r.tmps, defers := [] } W)
  (hbody : ∀ (pre : List α) (x : α) (a' : Act) (W : World), (∃ r', W.heap[l]? = some (.loop r')) → I pre W → Ax pre x a' W → pre.length < N → r.body.wpIn (F.inRound l) (n - 1) P (ownPostG B Kp I Ix (pre ++ [x]) W) a' W) :
  CallsIn F n P gf (#[.func (.yield l) #[] #[]] ++ lb) W1 fun e W' => (∃ v, e = .returned v) ∧ ((∃ xs, S xs ∧ I xs W' ∧ W'.heap[l]? = some (.loop r) ∧ (W1.heap[D]? = some od → W'.heap[D]? = some od)) ∨ ∃ pre c, Sp pre ∧ Ix c pre W' ∧ W'.heap[l]? = some (.loop (recOf r (some c))) ∧ (W1.heap[D]? = some od → W'.heap[D]? = some od)) := by
 have keep : ∀ {A C : World} {row : Option Nat}, A.grownBy C row → (∀ q, row = some q → W1.heap.size ≤ q ∧ ∃ o : Obj, A.heap[q]? = some o ∧ o.isWalk = true) → ∀ (k : Nat) (o : Obj), A.heap[k]? = some o → o.isWalk = false → C.heap[k]? = some o := by
  intro A C row hg hr k o hk ho
  refine (hg.block k (Array.getElem?_eq_some_iff.1 hk).1 (fun e => ?_)).trans hk
  obtain ⟨_, o', ho', hw⟩ := hr k e.symm
  rw [hk] at ho'
  cases ho'
  rw [ho] at hw
  cases hw
 have own : ∀ {A : World} {row : Option Nat}, (∀ q, row = some q → W1.heap.size ≤ q ∧ ∃ o : Obj, A.heap[q]? = some o ∧ o.isWalk = true) → ∀ q, row = some q → B ≤ q ∧ ∃ o : Obj, A.heap[q]? = some o ∧ o.isCells = false := by
  intro A row hr q e
  obtain ⟨h1, o, ho, hw⟩ := hr q e
  exact ⟨Nat.le_trans hlt1 h1, o, ho, Obj.not_cells_of_walk hw⟩
 refine (hseq l (fun pre W => I pre W ∧ W.heap[l]? = some (.loop r) ∧ (W1.heap[D]? = some od → W.heap[D]? = some od)) (fun pre W => ∃ c, Ix c pre W ∧ W.heap[l]? = some (.loop (recOf r (some c))) ∧ (W1.heap[D]? = some od → W.heap[D]? = some od)) W1 hb
  (fun s A C row hs hg hr => ⟨hI s A C row hs.1 hg (own hr), keep hg hr _ _ hs.2.1 rfl, fun h => keep hg hr _ _ (hs.2.2 h) how⟩)
  (fun s A C row hs hg hr => by obtain ⟨c, h1, h2, h3⟩ := hs; exact ⟨c, hIx c s A C row h1 hg (own hr), keep hg hr _ _ h2 rfl, fun h => keep hg hr _ _ (h3 h) how⟩) ?_ ⟨h0, hl, id⟩).mono ?_
 ·rintro pre x W0 W ⟨i0, l0, d0⟩ hv hlen
  have hbv := hV x W0 W hv
  have hlW := (Below.block hbv l (Array.getElem?_eq_some_iff.1 l0).1).trans l0
  refine ((rv_round (Kp := Kp) (ys := pre ++ [x]) hB hst hfn (hps x) hKt hKb hI hIx (hAx pre x) hlW (fun K hK => hassign pre x W0 W K i0 hv (own_later hI hbv i0) hK) (fun a' W' hr hi ha => hbody pre x a' W' hr hi ha hlen)) : YieldAt F (n - 1) P l (encs x) W _).mono ?_
  rintro e W' ⟨j, rfl, hl', ho, hj⟩
  have hd' : W1.heap[D]? = some od → W'.heap[D]? = some od := fun h => ho D od hD hDl ((Below.block hbv D (Array.getElem?_eq_some_iff.1 (d0 h)).1).trans (d0 h)) hoc
  cases j with
  | none => exact .inl ⟨rfl, ⟨hj.1, by rw [recOf_none hst hpe] at hl'; exact hl', hd'⟩, hj.2⟩
  | some c => exact .inr ⟨rfl, c, hj, hl', hd'⟩
 ·rintro e W' ⟨he, (⟨xs, h1, h2, h3, h4⟩ | ⟨pre, h1, c, h2, h3, h4⟩)⟩
  ·exact ⟨he, .inl ⟨xs, h1, h2, h3, h4⟩⟩
  ·exact ⟨he, .inr ⟨pre, c, h1, h2, h3, h4⟩⟩
theorem rangeW {α : Type} {F : Fence} {n : Nat} {P : Program} {g : Operand} {ps : Array Tmp} {assign body : Code} {Q : Exit → Act → World → Prop} {a : Act} {w : World}
  (hro : F.round = none) (h1 : 1 ≤ n) {gf : Nat} {lb : Array Value} (hg : a.eval g = .func (.func gf) #[] lb) (hFg : F.fn gf) (eg : ∀ args w, (callFunc gf args).run P w = .ok (.enter gf args) w)
  {encs : α → Array Value} {V : α → World → World → Prop} {Kp : World → World → Prop} {S Sp : List α → Prop} {N : Nat} (hseq : SeqV F (n - 1) P gf lb encs V Kp S Sp N w) (hV : ∀ x A B, V x A B → Bl A B)
  (hKt : ∀ {A B C : World}, Kp A B → Kp B C → Kp A C) (hKb : ∀ (W : World) (l : Nat) (o o' : Obj), w.heap.size ≤ l → W.heap[l]? = some o → o.isCells = false → o.isWalk = false → Kp W (W.putObj l o')) (hps : ∀ x, (encs x).size = ps.size)
  (I : List α → World → Prop) (Ix : Code → List α → World → Prop) (hI : OwnFrom w.heap.size I) (hIx : ∀ c, OwnFrom w.heap.size (Ix c)) (h0 : I [] w) (Ax : Act → List α → α → Act → World → Prop) (hAx : ∀ pre x a', OwnFrom w.heap.size (fun (_ : Unit) W => Ax a pre x a' W))
  (hassign : ∀ (l : Nat) (pre : List α) (x : α) (W0 W : World) (K : Act → World → Prop), I pre W0 → V x W0 W → I pre W → (∀ a' W', KeepsFrom w.heap.size W W' → Kp W W' → I pre W' → Ax a pre x a' W' → K a' W') →
   assign.wpIn (F.inRound l) (n - 1 - 1) P (Exit.then K (fun _ _ _ => False)) { tmps := (ps.zip (encs x)).foldl (fun t (p, v) => t.setIfInBounds p v) a.tmps, defers := [] } W)
  (hbody : ∀ (l : Nat) (pre : List α) (x : α) (a' : Act) (W : World), w.heap.size ≤ l → (∃ r, W.heap[l]? = some (.loop r)) → I pre W → Ax a pre x a' W → pre.length < N → body.wpIn (F.inRound l) (n - 1 - 1) P (ownPostG w.heap.size Kp I Ix (pre ++ [x]) W) a' W)
  (hdone : ∀ (D : Nat) (xs : List α) (W : World), w.heap.size ≤ D → S xs → I xs W → W.heap[D]? = some (.deferred (some [])) → Q .normal { a with defers := { target := .collected D, args := #[] } :: a.defers } W)
  (hstop : ∀ (D : Nat) (c : Code) (pre : List α) (W : World), w.heap.size ≤ D → Sp pre → Ix c pre W → W.heap[D]? = some (.deferred (some [])) → c.wpIn F n P Q { a with defers := { target := .collected D, args := #[] } :: a.defers } W) :
  (Code.rangeFunc g ps assign body).wpIn F n P Q a w := by
 refine wpIn_rangeFunc fun fn hfn => ?_
 rw [hro]
 have he := run_enterLoop_outer (P := P) (w := w) fn a.tmps ps assign body
 generalize hr : ({ state := .ready, pending := none, fn, tmps := a.tmps, params := ps, assign, body, defers := w.heap.size } : Loop) = r at he
 obtain ⟨e1, e2, e3, e4, e5, e6, e7⟩ : r.state = .ready ∧ r.pending = none ∧ r.fn = fn ∧ r.tmps = a.tmps ∧ r.params = ps ∧ r.assign = assign ∧ r.body = body := by rw [← hr]; exact ⟨rfl, rfl, rfl, rfl, rfl, rfl, rfl⟩
 clear hr
 generalize hW : (w.alloc (.deferred (some []))).alloc (.loop r) = W1 at he
 have hb : Bl w W1 := by rw [← hW]; exact ((Bl.refl w).alloc _).alloc _
 have hl : W1.heap[w.heap.size + 1]? = some (.loop r) := by
  rw [← hW]; have := World.alloc_heap_new (w.alloc (.deferred (some []))) (.loop r); rwa [World.size_alloc] at this
 have hd : W1.heap[w.heap.size]? = some (.deferred (some [])) := by rw [← hW]; exact (Below.heap_alloc _ _ _ (by simp)).trans (World.alloc_heap_new w _)
 refine ⟨_, _, _, { target := .fn (.func gf) lb, args := #[.func (.yield (w.heap.size + 1)) #[] #[]] }, W1, gf, #[.func (.yield (w.heap.size + 1)) #[] #[]] ++ lb, W1, he, ?_, ?_, ?_, fun _ => h1, ?_⟩
 ·simp only [resolve, hg]
  simp [go_sem]
 ·intro f' hf'
  simp [Target.leads] at hf'
  subst hf'
  exact hFg
 ·simp [invoke, go_sem, eg]
 ·refine (rw_run (Kp := Kp) (Ax := Ax a) (Nat.le_succ _) hb hb.size e1 e2 (e3 ▸ hfn) hseq hV (by rw [e5]; exact hps) hKt hKb hI hIx hAx hl (own_later hI hb h0) w.heap.size (.deferred (some [])) (Nat.le_refl _) (by omega) (.inl hd) rfl rfl
   (by rw [e4, e5, e6]; exact fun pre x W0 W K => hassign _ pre x W0 W K) (by rw [e7]; exact fun pre x a' W h => hbody _ pre x a' W (Nat.le_succ _) h)).mono ?_
  rintro e W' ⟨⟨v, rfl⟩, (⟨xs, h1, h2, h3, h4⟩ | ⟨pre, c, h1, h2, h3, h4⟩)⟩
  ·have hq := run_endLoop (P := P) h3 (by rw [e1]; decide)
   rw [e2] at hq
   exact ⟨none, _, hq, hdone _ xs _ (Nat.le_refl _) h1 (hI.putObj _ h2 (Nat.le_succ _) h3 rfl) ((World.putObj_heap_other (by omega)).trans (h4 hd))⟩
  ·have hq := run_endLoop (P := P) h3 (by simp [recOf])
   exact ⟨some c, _, hq, hstop _ c pre _ (Nat.le_refl _) h1 ((hIx c).putObj _ h2 (Nat.le_succ _) h3 rfl) ((World.putObj_heap_other (by omega)).trans (h4 hd))⟩
theorem RwZ.own {α : Type} {s : Nat} {c : α → List Value} (hs : ∀ x, (c x).length = s) (s0 : 0 < s) {X Y : World} {lo : Nat} {v : Value} {xs : List α} {row : Option Nat} (h : RwZ s c X lo v xs) (hne : xs ≠ []) (hg : X.grownBy Y row) (hr : ∀ r, row = some r → ∃ o : Obj, X.heap[r]? = some o ∧ o.isCells = false) : RwZ s c Y lo v xs := by
 obtain ⟨b, cap, rfl, hc, hlo, hb, hf, hx⟩ := h
 obtain ⟨x0, xs', rfl⟩ := List.exists_cons_of_ne_nil hne
 have hcell := hx 0 x0 rfl 0 _ (List.getElem?_eq_getElem (by rw [hs]; exact s0))
 have hbr : row ≠ some b := by
  intro e
  obtain ⟨o, ho, hoc⟩ := hr b e
  unfold World.cell? at hcell
  simp only [ho] at hcell
  cases o <;> simp_all [Obj.isCells]
 have hblk := hg.block b hb (fun e => hbr e.symm)
 exact ⟨b, cap, rfl, hc, hlo, Nat.lt_of_lt_of_le hb hg.size, fun o => (World.frozen?_of_block (a := ⟨b, o, none⟩) hblk).trans (hf o), fun j x hj k u hu => (World.cell?_of_block (a := ⟨b, j * s + k, none⟩) hblk).trans (hx j x hj k u hu)⟩
theorem RwZ.beside {α : Type} {s : Nat} {c : α → List Value} {u w5 : World} {lo B : Nat} {v v' : Value} {xs : List α} {row : Option Nat} (h : RwZ s c u lo v xs) (hg : u.grownBy w5 row) (hne : ∀ g, v.ownBlock = some g → row ≠ some g ∧ g ≠ B) : RwZ s c (w5.setCell ⟨B, 0, none⟩ v') lo v xs := by
 obtain ⟨b, cap, rfl, hc, hlo, hb, hf, hx⟩ := h
 have h1 := hne b rfl
 have hk : (w5.setCell ⟨B, 0, none⟩ v').heap[b]? = u.heap[b]? := (Below.heap_setCell _ _ _ b (by show b ≠ B; exact h1.2)).trans (hg.block b hb (fun e => h1.1 e.symm))
 exact ⟨b, cap, rfl, hc, hlo, by simp; exact Nat.lt_of_lt_of_le hb hg.size, fun o => (World.frozen?_of_block (a := ⟨b, o, none⟩) hk).trans (hf o), fun j x hj k u hu => (World.cell?_of_block (a := ⟨b, j * s + k, none⟩) hk).trans (hx j x hj k u hu)⟩
abbrev hdC (C : Nat) (x : RowX) : List Value := [rowV C x]
theorem hd_get (C : Nat) : ∀ (pre : List RowX) (i : Nat) (x : RowX), pre[i]? = some x → (pre.flatMap (hdC C))[i]? = some (rowV C x)
 | [], i, x, h => by simp at h
 | y :: pre, 0, x, h => by simp at h; subst h; rfl
 | y :: pre, i + 1, x, h => by
  rw [List.flatMap_cons]
  show ([rowV C y] ++ pre.flatMap (hdC C))[i + 1]? = _
  rw [List.getElem?_append_right (by simp)]
  exact hd_get C pre i x (by simpa using h)
def RowsZ {α : Type} (s : Nat) (c : α → List Value) (lo R C : Nat) (f : Nat → Nat → α) (pre : List RowX) (U : World) : Prop :=
 (∀ y ∈ pre, RwZ s c U lo (rowV C y) (rowM C f y.1) ∧ y.1 < R) ∧ pre.Pairwise fun x y => (rowV C x).ownBlock ≠ (rowV C y).ownBlock
theorem Tbl.of {α : Type} {s : Nat} {c : α → List Value} {U : World} {base lo R C : Nat} {t : TypeId} {f : Nat → Nat → α} {zs : List RowX} {v : Value} (hS : zs.map (·.1) = List.range R) (hR : 0 < R)
  (hrow : U.ownsRow base t 1 v zs.length (zs.flatMap (hdC C))) (hZ : RowsZ s c lo R C f zs U) (hG : ∀ y ∈ zs, v.ownBlock ≠ (rowV C y).ownBlock) :
  ∃ H hc B cp, v = .slice (some ⟨H, 0, none⟩) R hc ∧ R ≤ hc ∧ base ≤ H ∧ Tbl s c U H B cp R C f ∧ ∀ i, i < R → lo ≤ B i := by
 have hlen : zs.length = R := by have := congrArg List.length hS; simpa using this
 have at_ : ∀ i, i < R → ∃ x, zs[i]? = some x ∧ x.1 = i ∧ ∃ b, x.2.1 = some ⟨b, 0, none⟩ ∧ C ≤ x.2.2 ∧ lo ≤ b ∧ b < U.heap.size ∧ (∀ o, U.frozen? ⟨b, o, none⟩ = false) ∧ ∀ j z, (rowM C f i)[j]? = some z → ∀ k u, (c z)[k]? = some u → U.cell? ⟨b, j * s + k, none⟩ = some u := fun i hi => by
  have hx : zs[i]? = some (zs[i]'(by omega)) := List.getElem?_eq_getElem (by omega)
  have h1 : (zs[i]'(by omega)).1 = i := by
   have := congrArg (·[i]?) hS
   simp only [List.getElem?_map, hx, List.getElem?_range hi, Option.map_some, Option.some.injEq] at this
   exact this
  obtain ⟨b, cap, e, hc, hlo, hb, hf, hcell⟩ := (hZ.1 _ (List.mem_of_getElem? hx)).1
  rw [h1] at hcell
  simp only [rowV, Value.slice.injEq] at e
  rw [rowM_len] at hc
  exact ⟨_, hx, h1, b, e.1, by rw [e.2.2]; exact hc, hlo, hb, hf, hcell⟩
 have ex : ∀ i, ∃ b, i < R → ∃ x, zs[i]? = some x ∧ x.1 = i ∧ x.2.1 = some ⟨b, 0, none⟩ ∧ C ≤ x.2.2 ∧ lo ≤ b ∧ b < U.heap.size ∧ (∀ o, U.frozen? ⟨b, o, none⟩ = false) ∧ ∀ j z, (rowM C f i)[j]? = some z → ∀ k u, (c z)[k]? = some u → U.cell? ⟨b, j * s + k, none⟩ = some u := fun i => by
  by_cases hi : i < R
  ·obtain ⟨x, h1, h2, b, h3⟩ := at_ i hi
   exact ⟨b, fun _ => ⟨x, h1, h2, h3⟩⟩
  ·exact ⟨0, fun h => absurd h hi⟩
 obtain ⟨B, hB⟩ := Classical.axiomOfChoice ex
 have hB : ∀ i, i < R → ∃ x, zs[i]? = some x ∧ x.1 = i ∧ x.2.1 = some ⟨B i, 0, none⟩ ∧ C ≤ x.2.2 ∧ lo ≤ B i ∧ B i < U.heap.size ∧ (∀ o, U.frozen? ⟨B i, o, none⟩ = false) ∧ ∀ j z, (rowM C f i)[j]? = some z → ∀ k u, (c z)[k]? = some u → U.cell? ⟨B i, j * s + k, none⟩ = some u := hB
 have hlt := hrow.lt
 have hcs : ∀ g, v.ownBlock = some g → ∀ j u, (zs.flatMap (hdC C))[j]? = some u → U.cell? ((⟨g, 0, none⟩ : Addr).add j) = some u := fun g hg => hrow.cells hg
 rcases hrow.2 with ⟨_, e0⟩ | ⟨H, hc, cur, rfl, hbs, _, hcap, _⟩
 ·omega
 ·refine ⟨H, hc, B, fun i => ((zs[i]?.map fun x : RowX => x.2.2).getD 0), by rw [hlen], by omega, hbs, ⟨fun i hi => ?_, (hlt H rfl).2, fun i hi => ?_, fun i j hi hj e => ?_, fun i hi e => ?_, fun i hi => ?_, fun i j hi hj k u hu => ?_, fun i hi => ?_⟩, fun i hi => ?_⟩
  ·obtain ⟨x, hx, h1, h2, _⟩ := hB i hi
   have := hcs H rfl i _ (hd_get C zs i x hx)
   have hadd : (⟨H, 0, none⟩ : Addr).add i = ⟨H, i, none⟩ := by unfold Addr.add; split <;> simp_all
   rw [hadd] at this
   rw [this, hx]
   simp only [rowV, Option.map_some, Option.getD_some, h2]
  ·obtain ⟨x, _, _, _, _, _, h, _⟩ := hB i hi
   exact h
  ·obtain ⟨x, hx, h1, h2, _⟩ := hB i hi
   obtain ⟨y, hy, k1, k2, _⟩ := hB j hj
   have P := List.pairwise_iff_getElem.1 hZ.2
   have ex : zs[i]'(by omega) = x := by rw [List.getElem?_eq_getElem (by omega)] at hx; exact Option.some.inj hx
   have ey : zs[j]'(by omega) = y := by rw [List.getElem?_eq_getElem (by omega)] at hy; exact Option.some.inj hy
   have same : (rowV C x).ownBlock = (rowV C y).ownBlock := by unfold rowV; rw [h2, k2, e]; rfl
   rcases Nat.lt_trichotomy i j with h | h | h
   ·have := P i j (by omega) (by omega) h
    rw [ex, ey] at this
    exact absurd same this
   ·exact h
   ·have := P j i (by omega) (by omega) h
    rw [ex, ey] at this
    exact absurd same.symm this
  ·obtain ⟨x, hx, h1, h2, _⟩ := hB i hi
   refine hG x (List.mem_of_getElem? hx) ?_
   unfold rowV
   rw [h2, e]
   rfl
  ·obtain ⟨x, hx, _, _, h, _⟩ := hB i hi
   rw [hx]
   exact h
  ·obtain ⟨x, _, _, _, _, _, _, _, h⟩ := hB i hi
   exact h j (f i j) (rowM_get f i hj) k u hu
  ·obtain ⟨x, _, _, _, _, _, _, h, _⟩ := hB i hi
   exact h
  ·obtain ⟨x, _, _, _, _, h, _⟩ := hB i hi
   exact h
end Go.Proofs.YtljmggemdkfbiaaGreat
namespace Go.Proofs.YtljmggemdkfbiaaGreat
open Go.RowKit Go.Shelf
set_option linter.unusedSimpArgs false
set_option linter.unusedVariables false
attribute [local go_sem] Oper.semAt_some
structure KeptBF (w : World) (B : Nat) (p : Option Addr) (n cap : Nat) (f : Nat → Fr) : Prop where
 box : w.cell? ⟨B, 0, none⟩ = some (.slice p n cap)
 row : Rw 3 cellsF w (.slice p n cap) (linJ n f)
def zsBF (n : Nat) (f : Nat → Fr) (t : Nat) : List (Nat × Fr) := (List.range t).map fun s => (n - 1 - s, f (n - 1 - s))
theorem zsB_nextF (n : Nat) (f : Nat → Fr) (t : Nat) : zsBF n f (t + 1) = zsBF n f t ++ [(n - 1 - t, f (n - 1 - t))] := by
 unfold zsBF
 rw [List.range_succ, List.map_append]
 rfl
theorem rq_atF {w : World} {p : Option Addr} {n cap : Nat} {f : Nat → Fr} (h : Rq 3 cellsF w (.slice p n cap) (linJ n f)) {i : Nat} (hi : i < n) : ∃ b o, p = some ⟨b, o, none⟩ ∧ ∀ j v, (cellsF (f i))[j]? = some v → w.cell? ⟨b, o + i * 3 + j, none⟩ = some v := by
 rcases h with ⟨p', cap', e, hx, _⟩ | ⟨b, o, cap', e, hc, hb, hx⟩
 ·have := congrArg List.length hx
  rw [linJ_len] at this
  simp at this
  omega
 ·simp only [Value.slice.injEq] at e
  exact ⟨b, o, e.1, fun j v hj => hx i _ (linJ_get _ hi) j v hj⟩
set_option maxRecDepth 100000 in
set_option maxHeartbeats 2000000 in
theorem iterBF (m l B n : Nat) (p : Option Addr) (cap : Nat) (f : Nat → Fr) (Kp : World → World → Prop) (hKp : ∀ {A C : World}, KeptBF A B p n cap f → Kp A C → KeptBF C B p n cap f) (J Jx : List (Nat × Fr) → World → Prop) (W : World) (hn : n ≤ 1000)
  (hY : ∀ pre x W0 W1, J pre W0 → (W1 = W0 ∧ pre = zsBF n f pre.length ∧ x = (n - 1 - pre.length, f (n - 1 - pre.length))) → pre.length < n → YieldAt Fence.wide (m - 1) Tryz.prog l #[.int .i64 x.1, frV x.2] W1 fun e W' =>
   (e = .returned (.bool true) ∧ J (pre ++ [x]) W' ∧ Kp W1 W') ∨ (e = .returned (.bool false) ∧ Jx (pre ++ [x]) W'))
  (hP : KeptBF W B p n cap f) (h0 : J [] W) :
  CallsIn Fence.wide m Tryz.prog 142 #[.func (.yield l) #[] #[], .pointer (some ⟨B, 0, none⟩)] W fun e W' => (∃ v, e = .returned v) ∧
   ((∃ zs : List (Nat × Fr), zs = zsBF n f n ∧ J zs W') ∨ (∃ pre : List (Nat × Fr), pre.length ≤ n ∧ Jx pre W')) := by
 have HP := hideP hP
 have c0 := hP.box
 clear hP
 refine callsIn_of_wp Tryz.func142 rfl trivial ?_ rfl
 simp only [Tryz.ntmps142, List.size_toArray, List.length_cons, List.length_nil, Nat.reduceAdd, Nat.reduceSub, Array.replicate_succ, Array.replicate_zero, List.push_toArray, List.append_toArray, List.nil_append, List.cons_append]
 have WN : IntKind.i64.wrap ((n : Int) - 1) = (n : Int) - 1 := wrapS7 (by omega) (by omega)
 gi_wp2
 clear c0
 gi_loopw [3] (fun i wr => ∃ t : Nat, t ≤ n ∧ i = .int .i64 ((n : Int) - 1 - t) ∧ J (zsBF n f t) wr ∧ KeptBF wr B p n cap f) (fun i _ => (intOf i + 1).toNat)
 case atStart => exact ⟨0, Nat.zero_le _, by simp, h0, HP.out⟩
 case round =>
  obtain ⟨t, ht, rfl, hJs, hk⟩ := hrel
  have HK := hideP hk
  clear hk
  by_cases hlt : t < n
  ·obtain ⟨i, hi⟩ : ∃ i : Nat, i = n - 1 - t := ⟨_, rfl⟩
   have e1 : (n : Int) - 1 - t = (i : Int) := by omega
   have e2 : IntKind.i64.wrap ((i : Int) - 1) = (i : Int) - 1 := wrapS7 (by omega) (by omega)
   have hin : i < n := by omega
   have hge : (i : Int) ≥ 0 := by omega
   rw [e1]
   obtain ⟨b, o, rfl, CX⟩ := rq_atF HK.out.row.q hin
   obtain ⟨y, hy⟩ : ∃ y, y = f i := ⟨_, rfl⟩
   rw [← hy] at CX
   have x0 : wr.cell? ⟨b, o + i * 3, none⟩ = some (.int .i64 y.n) := by simpa using CX 0 _ rfl
   have x1 : wr.cell? ⟨b, o + i * 3 + 1, none⟩ = some (.int .i64 y.d) := by simpa using CX 1 _ rfl
   have x2 : wr.cell? ⟨b, o + i * 3 + 2, none⟩ = some (.bool y.bad) := by simpa using CX 2 _ rfl
   have c0 := HK.out.box
   have hlen : (zsBF n f t).length = t := by simp [zsBF]
   obtain ⟨fn, tmps, assign, body, hyd, hR2⟩ := hY (zsBF n f t) (i, y) wr wr hJs ⟨rfl, by rw [hlen], by rw [hlen, ← hi, hy]⟩ (by omega)
   dsimp only at hyd
   have hR3 : RoundIn Fence.wide (m - 1) Tryz.prog l fn tmps assign body wr fun e W' => ∃ r : Bool, e = .returned (.bool r) ∧ ((r = true ∧ J (zsBF n f (t + 1)) W' ∧ Kp wr W') ∨ (r = false ∧ Jx (zsBF n f (t + 1)) W')) := by
    refine hR2.mono ?_
    rw [zsB_nextF, ← hi, ← hy]
    rintro e W' (⟨rfl, h1, h2⟩ | ⟨rfl, h1⟩)
    ·exact ⟨true, rfl, .inl ⟨rfl, h1, h2⟩⟩
    ·exact ⟨false, rfl, .inr ⟨rfl, h1⟩⟩
   have HI := hideP hi
   clear CX hR2 hy e1 hi
   gi_wp2_with fail
   refine ⟨fun h => (by cases h), ?_⟩
   refine hR3.mono ?_
   rintro e W3 ⟨r, rfl, hr⟩
   clear c0 x0 x1 x2 hR3 hyd
   rcases hr with ⟨rfl, hJ3, hk3⟩ | ⟨rfl, hJx3⟩
   ·have HK3 := hideP (hKp HK.out hk3)
    gi_wp2
    go_roundw
    case rel => exact ⟨t + 1, by omega, by first | rfl | (congr 1; have := HI.out; omega), hJ3, HK3.out⟩
    case measure => simp [intOf] <;> omega
   ·gi_wp2
    refine bodyPost_ret (results_none rfl _ _ _) rfl ?_
    exact ⟨⟨_, rfl⟩, .inr ⟨_, by simp [zsBF] <;> omega, hJx3⟩⟩
  ·obtain rfl : t = n := by omega
   have e1 : (t : Int) - 1 - t = -1 := by omega
   rw [e1]
   have HJ := hideP hJs
   clear hJs
   gi_wp2
   go_end0
   exact ⟨⟨_, rfl⟩, .inl ⟨_, rfl, HJ.out⟩⟩
theorem seqBF (m B n : Nat) (p : Option Addr) (cap : Nat) (f : Nat → Fr) (Kp : World → World → Prop) (hKp : ∀ {A C : World}, KeptBF A B p n cap f → Kp A C → KeptBF C B p n cap f) (w : World) (hn : n ≤ 1000) (hP : ∀ W, Bl w W → KeptBF W B p n cap f) :
  SeqV Fence.wide m Tryz.prog 142 #[.pointer (some ⟨B, 0, none⟩)] (fun x : Nat × Fr => #[.int .i64 x.1, frV x.2]) (fun x W0 W1 => W1 = W0 ∧ x.1 < n) Kp (fun zs => zs = zsBF n f n) (fun pre => pre.length ≤ n) n w :=
 fun l J Jx W hW hJ _ hY h0 => iterBF m l B n p cap f Kp hKp J Jx W hn (fun pre x W0 W1 h1 h2 h3 => hY pre x W0 W1 h1 ⟨h2.1, by rw [h2.2.2]; show n - 1 - pre.length < n; omega⟩ h3) (hP W hW) h0
theorem backwardF (n : Nat) (p : Option Addr) (cap : Nat) (f : Nat → Fr) (w : World) (h : Rw 3 cellsF w (.slice p n cap) (linJ n f)) :
  Calls Tryz.prog 114 #[.slice p n cap] w fun e w' => e = .returned (.func (.func 142) #[] #[.pointer (some ⟨w.heap.size, 0, none⟩)]) ∧ KeptBF w' w.heap.size p n cap f ∧ w' = w.alloc (.cells #[.slice p n cap] 28) := by
 go_enter Tryz.func114, Tryz.ntmps114
 go_wp2
 go_ret
 exact ⟨rfl, ⟨by simp [go_sem], h.later ((Bl.refl _).alloc _)⟩, rfl⟩
end Go.Proofs.YtljmggemdkfbiaaGreat
