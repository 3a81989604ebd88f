/- Contracts of frac's told, Add, Sub, Mul, Div (layer 4). -/
import Derived.Test.YtljmggemdkfbiaaGreatFr3
namespace Go.Proofs.YtljmggemdkfbiaaGreat
open Go.RowKit
set_option linter.unusedSimpArgs false
set_option linter.unusedVariables false

/-- The world behind the boxes of two fractions, and of a third one that is yet to be told. -/
structure ThreeR (w W : World) (a b : Fr) : Prop where
  eq : W = ((w.alloc (.cells #[.int .i64 a.n, .int .i64 a.d, .bool a.bad] 34)).alloc (.cells #[.int .i64 b.n, .int .i64 b.d, .bool b.bad] 34)).alloc (.cells #[.int .i64 0, .int .i64 0, .bool false] 34)
  bl : Bl w W
  ba : FBox W w.heap.size a
  bb : FBox W (w.heap.size + 1) b
  bz : FBox W (w.heap.size + 1 + 1) zeroR
  size : W.heap.size = w.heap.size + 1 + 1 + 1
theorem threeR_ex (w : World) (a b : Fr) : ∃ W, ThreeR w W a b := by
  refine ⟨_, rfl, (((Bl.refl _).alloc _).alloc _).alloc _, (FBox.new w a 34).later (((Bl.refl _).alloc _).alloc _), ?_, ?_, by simp⟩
  · have := (FBox.new (w.alloc (.cells #[.int .i64 a.n, .int .i64 a.d, .bool a.bad] 34)) b 34).later ((Bl.refl _).alloc (.cells #[.int .i64 0, .int .i64 0, .bool false] 34))
    simpa using this
  · have := FBox.new ((w.alloc (.cells #[.int .i64 a.n, .int .i64 a.d, .bool a.bad] 34)).alloc (.cells #[.int .i64 b.n, .int .i64 b.d, .bool b.bad] 34)) zeroR 34
    simpa [zeroR] using this

theorem toldR_any (K : Nat) (caps : Array Value) (p q : Int) (a b : Fr) (w : World)
    (eg : ∀ (args : Array Value) (w : World), (callFunc K args).run Tryz.prog w = .ok (.enter K args) w)
    (hf : fineR a = true → fineR b = true → ∀ w', Bl w w' → Calls Tryz.prog K caps w' fun e w'' => e = .returned (.tuple #[.int .i64 p, .int .i64 q]) ∧ Bl w' w'')
    (hb : fineR a = true → fineR b = true → -4611686018427387904 ≤ p ∧ p ≤ 4611686018427387904 ∧ -4611686018427387904 ≤ q ∧ q ≤ 4611686018427387904) :
    Calls Tryz.prog 193 #[frV a, frV b, .func (.func K) #[] caps] w fun e w' => e = .returned (frV (if fineR a && fineR b then lowR p q else wrongR)) ∧ Bl w w' := by
  obtain ⟨W, X⟩ := threeR_ex w a b
  have HX := hideP X
  clear X
  have FA := hideP (fineR_any a)
  have FB := hideP (fineR_any b)
  cases ha : fineR a
  · rw [ha] at FA
    clear hf hb
    go_enter Tryz.func193, Tryz.ntmps193
    go_wp2_with fail
    rw [← HX.out.eq]
    refine (FA.out _).mono ?_
    rintro e w1 ⟨rfl, h1⟩
    go_wp2_with fail
    refine (wrongR_any _).mono ?_
    rintro e w2 ⟨rfl, h2⟩
    obtain ⟨c0, c1, c2, f0, f1, f2, lt⟩ := HX.out.bz.later (h1.trans h2)
    go_wp2
    simp [bodyPost, results, Tryz.results193, go_sem, c0, c1, c2]
    exact Bl.set3 (HX.out.bl.trans (h1.trans h2)) (by omega) _ _ _
  · rw [ha] at FA
    cases hbb : fineR b
    · rw [hbb] at FB
      clear hf hb
      go_enter Tryz.func193, Tryz.ntmps193
      go_wp2_with fail
      rw [← HX.out.eq]
      refine (FA.out _).mono ?_
      rintro e w1 ⟨rfl, h1⟩
      obtain ⟨b0, b1, b2, _, _, _, _⟩ := HX.out.bb.later h1
      go_wp2_with fail
      refine (FB.out _).mono ?_
      rintro e w2 ⟨rfl, h2⟩
      go_wp2_with fail
      refine (wrongR_any _).mono ?_
      rintro e w3 ⟨rfl, h3⟩
      clear b0 b1 b2
      obtain ⟨c0, c1, c2, f0, f1, f2, lt⟩ := HX.out.bz.later ((h1.trans h2).trans h3)
      go_wp2
      simp [bodyPost, results, Tryz.results193, go_sem, c0, c1, c2]
      exact Bl.set3 (HX.out.bl.trans ((h1.trans h2).trans h3)) (by omega) _ _ _
    · rw [hbb] at FB
      have HF := hideP (hf ha hbb)
      have HL := hideP (lowest_any p q (hb ha hbb).1 (hb ha hbb).2.1 (hb ha hbb).2.2.1 (hb ha hbb).2.2.2)
      clear hf hb
      generalize lowR p q = r at *
      go_enter Tryz.func193, Tryz.ntmps193
      go_wp2_with fail
      rw [← HX.out.eq]
      refine (FA.out _).mono ?_
      rintro e w1 ⟨rfl, h1⟩
      obtain ⟨b0, b1, b2, _, _, _, _⟩ := HX.out.bb.later h1
      go_wp2_with fail
      refine (FB.out _).mono ?_
      rintro e w2 ⟨rfl, h2⟩
      go_wp2_with fail
      refine (HF.out _ (HX.out.bl.trans (h1.trans h2))).mono ?_
      rintro e w3 ⟨rfl, h3⟩
      go_wp2_with fail
      refine (HL.out _).mono ?_
      rintro e w4 ⟨rfl, h4⟩
      clear b0 b1 b2
      obtain ⟨c0, c1, c2, f0, f1, f2, lt⟩ := HX.out.bz.later (((h1.trans h2).trans h3).trans h4)
      go_wp2
      simp [bodyPost, results, Tryz.results193, go_sem, c0, c1, c2]
      exact Bl.set3 (HX.out.bl.trans (((h1.trans h2).trans h3).trans h4)) (by omega) _ _ _

theorem mul_part {x y : Int} (hx : -1073741824 ≤ x ∧ x ≤ 1073741824) (hy : -1073741824 ≤ y ∧ y ≤ 1073741824) : -1152921504606846976 ≤ x * y ∧ x * y ≤ 1152921504606846976 := by
  have h : (x * y).natAbs ≤ 1073741824 * 1073741824 := by
    rw [Int.natAbs_mul]; exact Nat.mul_le_mul (by omega) (by omega)
  omega
theorem fine_n {a : Fr} (h : fineR a = true) : -1073741824 ≤ a.n ∧ a.n ≤ 1073741824 := by have := fineR_iff.1 h; omega
theorem fine_dd {a : Fr} (h : fineR a = true) : -1073741824 ≤ a.d ∧ a.d ≤ 1073741824 := by have := fineR_iff.1 h; omega
theorem wrap_part {x y : Int} (h : -1152921504606846976 ≤ x * y ∧ x * y ≤ 1152921504606846976) : wrap64 (x * y) = x * y := IntWalk.wrap64_in _ (by omega)

theorem addP_any (a b : Fr) (p q : Nat) (w : World) (ha : fineR a = true) (hb : fineR b = true) (xa : FBox w p a) (xb : FBox w q b) :
    Calls Tryz.prog 194 #[.pointer (some ⟨p, 0, none⟩), .pointer (some ⟨q, 0, none⟩)] w fun e w' => e = .returned (.tuple #[.int .i64 (a.n * b.d + b.n * a.d), .int .i64 (a.d * b.d)]) ∧ Bl w w' := by
  have m1 := mul_part (fine_n ha) (fine_dd hb)
  have m2 := mul_part (fine_n hb) (fine_dd ha)
  have m3 := mul_part (fine_dd ha) (fine_dd hb)
  have e1 := wrap_part m1
  have e2 := wrap_part m2
  have e3 := wrap_part m3
  have e4 : wrap64 (a.n * b.d + b.n * a.d) = a.n * b.d + b.n * a.d := IntWalk.wrap64_in _ (by omega)
  clear m1 m2 m3 ha hb
  obtain ⟨a0, a1, a2, _, _, _, _⟩ := xa
  obtain ⟨b0, b1, b2, _, _, _, _⟩ := xb
  go_enter Tryz.func194, Tryz.ntmps194
  go_wp2
  go_quiet (fail)
  go_wp2
  go_ret2
  refine ⟨?_, drewN_bl _ _⟩
  simp [e3, e4]
theorem subP_any (a b : Fr) (p q : Nat) (w : World) (ha : fineR a = true) (hb : fineR b = true) (xa : FBox w p a) (xb : FBox w q b) :
    Calls Tryz.prog 198 #[.pointer (some ⟨p, 0, none⟩), .pointer (some ⟨q, 0, none⟩)] w fun e w' => e = .returned (.tuple #[.int .i64 (a.n * b.d - b.n * a.d), .int .i64 (a.d * b.d)]) ∧ Bl w w' := by
  have m1 := mul_part (fine_n ha) (fine_dd hb)
  have m2 := mul_part (fine_n hb) (fine_dd ha)
  have m3 := mul_part (fine_dd ha) (fine_dd hb)
  have e1 := wrap_part m1
  have e2 := wrap_part m2
  have e3 := wrap_part m3
  have e4 : wrap64 (a.n * b.d - b.n * a.d) = a.n * b.d - b.n * a.d := IntWalk.wrap64_in _ (by omega)
  clear m1 m2 m3 ha hb
  obtain ⟨a0, a1, a2, _, _, _, _⟩ := xa
  obtain ⟨b0, b1, b2, _, _, _, _⟩ := xb
  go_enter Tryz.func198, Tryz.ntmps198
  go_wp2
  go_quiet (fail)
  go_wp2
  go_ret2
  refine ⟨?_, drewN_bl _ _⟩
  simp [e3, e4]
theorem mulP_any (a b : Fr) (p q : Nat) (w : World) (ha : fineR a = true) (hb : fineR b = true) (xa : FBox w p a) (xb : FBox w q b) :
    Calls Tryz.prog 196 #[.pointer (some ⟨p, 0, none⟩), .pointer (some ⟨q, 0, none⟩)] w fun e w' => e = .returned (.tuple #[.int .i64 (a.n * b.n), .int .i64 (a.d * b.d)]) ∧ Bl w w' := by
  have m1 := mul_part (fine_n ha) (fine_n hb)
  have m3 := mul_part (fine_dd ha) (fine_dd hb)
  have e1 := wrap_part m1
  have e3 := wrap_part m3
  clear m1 m3 ha hb
  obtain ⟨a0, a1, a2, _, _, _, _⟩ := xa
  obtain ⟨b0, b1, b2, _, _, _, _⟩ := xb
  go_enter Tryz.func196, Tryz.ntmps196
  go_wp2
  go_quiet (fail)
  go_wp2
  go_ret2
  refine ⟨?_, drewN_bl _ _⟩
  simp [e1, e3]
theorem divP_any (a b : Fr) (p q : Nat) (w : World) (ha : fineR a = true) (hb : fineR b = true) (xa : FBox w p a) (xb : FBox w q b) :
    Calls Tryz.prog 195 #[.pointer (some ⟨p, 0, none⟩), .pointer (some ⟨q, 0, none⟩)] w fun e w' => e = .returned (.tuple #[.int .i64 (a.n * b.d), .int .i64 (a.d * b.n)]) ∧ Bl w w' := by
  have m1 := mul_part (fine_n ha) (fine_dd hb)
  have m3 := mul_part (fine_dd ha) (fine_n hb)
  have e1 := wrap_part m1
  have e3 := wrap_part m3
  clear m1 m3 ha hb
  obtain ⟨a0, a1, a2, _, _, _, _⟩ := xa
  obtain ⟨b0, b1, b2, _, _, _, _⟩ := xb
  go_enter Tryz.func195, Tryz.ntmps195
  go_wp2
  go_quiet (fail)
  go_wp2
  go_ret2
  refine ⟨?_, drewN_bl _ _⟩
  simp [e1, e3]
theorem addX_eq (a b : Fr) : (if fineR a && fineR b then lowR (a.n * b.d + b.n * a.d) (a.d * b.d) else wrongR) = addR a b := by
  unfold addR
  cases ha : fineR a
  · rfl
  · cases hb : fineR b
    · rfl
    · simp only [Bool.and_self, if_true]; exact low_add ha hb
theorem addX_any (a b : Fr) (p q : Nat) (w : World) (xa : FBox w p a) (xb : FBox w q b) :
    Calls Tryz.prog 193 #[frV a, frV b, .func (.func 194) #[] #[.pointer (some ⟨p, 0, none⟩), .pointer (some ⟨q, 0, none⟩)]] w fun e w' => e = .returned (frV (addR a b)) ∧ Bl w w' := by
  rw [← addX_eq]
  exact toldR_any _ _ (a.n * b.d + b.n * a.d) (a.d * b.d) a b w (enters Tryz.func194 (by kernel_rfl) rfl)
    (fun ha hb w' h => addP_any a b p q w' ha hb (xa.later h) (xb.later h)) (fun ha hb => by have m1 := mul_part (fine_n ha) (fine_dd hb); have m2 := mul_part (fine_n hb) (fine_dd ha); have m3 := mul_part (fine_dd ha) (fine_dd hb); omega)
theorem radd_any (a b : Fr) (w : World) :
    Calls Tryz.prog 184 #[frV a, frV b] w fun e w' => e = .returned (frV (addR a b)) ∧ Bl w w' := by
  obtain ⟨W, X⟩ := threeR_ex w a b
  have T := hideP (addX_any a b w.heap.size (w.heap.size + 1) W X.ba X.bb)
  have HX := hideP X
  clear X
  generalize addR a b = r at *
  go_enter Tryz.func184, Tryz.ntmps184
  go_wp2_with fail
  rw [← HX.out.eq]
  refine (T.out).mono ?_
  rintro e w1 ⟨rfl, h1⟩
  obtain ⟨c0, c1, c2, f0, f1, f2, lt⟩ := HX.out.bz.later h1
  go_wp2
  simp [bodyPost, results, Tryz.results184, go_sem, c0, c1, c2]
  exact Bl.set3 (HX.out.bl.trans h1) (by omega) _ _ _
theorem subX_eq (a b : Fr) : (if fineR a && fineR b then lowR (a.n * b.d - b.n * a.d) (a.d * b.d) else wrongR) = subR a b := by
  unfold subR
  cases ha : fineR a
  · rfl
  · cases hb : fineR b
    · rfl
    · simp only [Bool.and_self, if_true]; exact low_sub ha hb
theorem subX_any (a b : Fr) (p q : Nat) (w : World) (xa : FBox w p a) (xb : FBox w q b) :
    Calls Tryz.prog 193 #[frV a, frV b, .func (.func 198) #[] #[.pointer (some ⟨p, 0, none⟩), .pointer (some ⟨q, 0, none⟩)]] w fun e w' => e = .returned (frV (subR a b)) ∧ Bl w w' := by
  rw [← subX_eq]
  exact toldR_any _ _ (a.n * b.d - b.n * a.d) (a.d * b.d) a b w (enters Tryz.func198 (by kernel_rfl) rfl)
    (fun ha hb w' h => subP_any a b p q w' ha hb (xa.later h) (xb.later h)) (fun ha hb => by have m1 := mul_part (fine_n ha) (fine_dd hb); have m2 := mul_part (fine_n hb) (fine_dd ha); have m3 := mul_part (fine_dd ha) (fine_dd hb); omega)
theorem rsub_any (a b : Fr) (w : World) :
    Calls Tryz.prog 192 #[frV a, frV b] w fun e w' => e = .returned (frV (subR a b)) ∧ Bl w w' := by
  obtain ⟨W, X⟩ := threeR_ex w a b
  have T := hideP (subX_any a b w.heap.size (w.heap.size + 1) W X.ba X.bb)
  have HX := hideP X
  clear X
  generalize subR a b = r at *
  go_enter Tryz.func192, Tryz.ntmps192
  go_wp2_with fail
  rw [← HX.out.eq]
  refine (T.out).mono ?_
  rintro e w1 ⟨rfl, h1⟩
  obtain ⟨c0, c1, c2, f0, f1, f2, lt⟩ := HX.out.bz.later h1
  go_wp2
  simp [bodyPost, results, Tryz.results192, go_sem, c0, c1, c2]
  exact Bl.set3 (HX.out.bl.trans h1) (by omega) _ _ _
theorem mulX_eq (a b : Fr) : (if fineR a && fineR b then lowR (a.n * b.n) (a.d * b.d) else wrongR) = mulR a b := by
  unfold mulR
  cases ha : fineR a
  · rfl
  · cases hb : fineR b
    · rfl
    · simp only [Bool.and_self, if_true]; exact low_mul ha hb
theorem mulX_any (a b : Fr) (p q : Nat) (w : World) (xa : FBox w p a) (xb : FBox w q b) :
    Calls Tryz.prog 193 #[frV a, frV b, .func (.func 196) #[] #[.pointer (some ⟨p, 0, none⟩), .pointer (some ⟨q, 0, none⟩)]] w fun e w' => e = .returned (frV (mulR a b)) ∧ Bl w w' := by
  rw [← mulX_eq]
  exact toldR_any _ _ (a.n * b.n) (a.d * b.d) a b w (enters Tryz.func196 (by kernel_rfl) rfl)
    (fun ha hb w' h => mulP_any a b p q w' ha hb (xa.later h) (xb.later h)) (fun ha hb => by have m1 := mul_part (fine_n ha) (fine_n hb); have m3 := mul_part (fine_dd ha) (fine_dd hb); omega)
theorem rmul_any (a b : Fr) (w : World) :
    Calls Tryz.prog 187 #[frV a, frV b] w fun e w' => e = .returned (frV (mulR a b)) ∧ Bl w w' := by
  obtain ⟨W, X⟩ := threeR_ex w a b
  have T := hideP (mulX_any a b w.heap.size (w.heap.size + 1) W X.ba X.bb)
  have HX := hideP X
  clear X
  generalize mulR a b = r at *
  go_enter Tryz.func187, Tryz.ntmps187
  go_wp2_with fail
  rw [← HX.out.eq]
  refine (T.out).mono ?_
  rintro e w1 ⟨rfl, h1⟩
  obtain ⟨c0, c1, c2, f0, f1, f2, lt⟩ := HX.out.bz.later h1
  go_wp2
  simp [bodyPost, results, Tryz.results187, go_sem, c0, c1, c2]
  exact Bl.set3 (HX.out.bl.trans h1) (by omega) _ _ _
theorem divX_eq (a b : Fr) : (if fineR a && fineR b then lowR (a.n * b.d) (a.d * b.n) else wrongR) = divR a b := by
  unfold divR
  cases ha : fineR a
  · rfl
  · cases hb : fineR b
    · rfl
    · simp only [Bool.and_self, if_true, Bool.true_and]
      by_cases h0 : b.n = 0
      · rw [if_neg (by simpa using h0)]; exact low_div0 h0
      · rw [if_pos (by simpa using h0)]; exact low_div ha hb h0
theorem divX_any (a b : Fr) (p q : Nat) (w : World) (xa : FBox w p a) (xb : FBox w q b) :
    Calls Tryz.prog 193 #[frV a, frV b, .func (.func 195) #[] #[.pointer (some ⟨p, 0, none⟩), .pointer (some ⟨q, 0, none⟩)]] w fun e w' => e = .returned (frV (divR a b)) ∧ Bl w w' := by
  rw [← divX_eq]
  exact toldR_any _ _ (a.n * b.d) (a.d * b.n) a b w (enters Tryz.func195 (by kernel_rfl) rfl)
    (fun ha hb w' h => divP_any a b p q w' ha hb (xa.later h) (xb.later h)) (fun ha hb => by have m1 := mul_part (fine_n ha) (fine_dd hb); have m3 := mul_part (fine_dd ha) (fine_n hb); omega)
theorem rdiv_any (a b : Fr) (w : World) :
    Calls Tryz.prog 185 #[frV a, frV b] w fun e w' => e = .returned (frV (divR a b)) ∧ Bl w w' := by
  obtain ⟨W, X⟩ := threeR_ex w a b
  have T := hideP (divX_any a b w.heap.size (w.heap.size + 1) W X.ba X.bb)
  have HX := hideP X
  clear X
  generalize divR a b = r at *
  go_enter Tryz.func185, Tryz.ntmps185
  go_wp2_with fail
  rw [← HX.out.eq]
  refine (T.out).mono ?_
  rintro e w1 ⟨rfl, h1⟩
  obtain ⟨c0, c1, c2, f0, f1, f2, lt⟩ := HX.out.bz.later h1
  go_wp2
  simp [bodyPost, results, Tryz.results185, go_sem, c0, c1, c2]
  exact Bl.set3 (HX.out.bl.trans h1) (by omega) _ _ _
end Go.Proofs.YtljmggemdkfbiaaGreat
