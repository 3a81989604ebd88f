/- The walk of FxOrder. -/
import Derived.Test.YtkigikccdoaljaaDoorFxB
namespace Go.Proofs.YtkigikccdoaljaaDoor
open Go.RowKit
set_option linter.unusedSimpArgs false
set_option linter.unusedVariables false

theorem fa_mono (a b c : Int) (h : a ≤ b) (h1 : faB a c = true) (h2 : faB b c = true) : faN a c ≤ faN b c := by
  unfold faN; rw [h1, h2, toN_t, toN_t]; omega
theorem fm_mono (a b c m : Int) (h : a ≤ b) (hc : 0 ≤ c) (h1 : fmB a c m = true) (h2 : fmB b c m = true) : fmN a c m ≤ fmN b c m := by
  have x1 := fmB_md h1
  have x2 := fmB_md h2
  rw [x1.2, x2.2, md_round _ _ _ _ (by decide) x1.1, md_round _ _ _ _ (by decide) x2.1]
  exact rnd_mono _ _ _ _ (by decide) (Int.mul_le_mul_of_nonneg_right h hc)
theorem fd_mono (a b c m : Int) (h : a ≤ b) (hc : 0 ≤ c) (h1 : fdB a c m = true) (h2 : fdB b c m = true) : fdN a c m ≤ fdN b c m := by
  have x1 := fdB_md h1
  have x2 := fdB_md h2
  have hz : 0 < c := by
    rcases Int.lt_or_eq_of_le hc with k | k
    · exact k
    · have := mdB_G x1.1
      rw [← k] at this
      simp [mdG] at this
  rw [x1.2, x2.2, md_round _ _ _ _ hz x1.1, md_round _ _ _ _ hz x2.1]
  exact rnd_mono _ _ _ _ hz (by omega)
theorem rtF_mono (p q : Int) (h0 : 0 ≤ p) (h : p ≤ q) : rtF p ≤ rtF q := by
  have a := rtF_spec p h0
  have b := rtF_spec q (by omega)
  rcases Int.lt_or_le (rtF q) (rtF p) with k | k
  · have := Int.mul_le_mul (show rtF q + 1 ≤ rtF p by omega) (show rtF q + 1 ≤ rtF p by omega) (by omega) (by omega)
    omega
  · exact k
theorem fq_mono (a b m : Int) (h : a ≤ b) (h1 : fqB a m = true) (h2 : fqB b m = true) : fqN a m ≤ fqN b m := by
  have k1 := fqB_ok h1
  have k2 := fqB_ok h2
  obtain ⟨r, t, er, r0, r1, t0, ep, ea, ht2, x1, x2, x0⟩ := fq_vals a k1.1 k1.2.1
  obtain ⟨s, u, es, s0, s1, u0, eq, eb, hu2, y1, y2, y0⟩ := fq_vals b k2.1 k2.2.1
  have hrs : r ≤ s := by
    have := rtF_mono (szI a * 16777216) (szI b * 16777216) (by rw [ep, ← ea]; omega) (by rw [ep, eq, ← ea, ← eb]; omega)
    rw [er, es] at this
    exact this
  have hle : r * r + t ≤ s * s + u := by rw [← ea, ← eb]; omega
  have key : ∀ (o p : Bool), (r = s → o = true → p = true) → upI r o ≤ upI s p := by
    intro o p hk
    rcases Int.lt_or_eq_of_le hrs with l | l
    · cases o <;> cases p <;> simp [upI] <;> omega
    · subst l
      cases o <;> cases p <;> simp [upI] <;> first | omega | (exact absurd (hk rfl rfl) (by simp))
  rcases mode_cases k1.2.2 with rfl | rfl | rfl
  · rw [x0.1, y0.1]
    refine key _ _ ?_
    intro e o
    subst e
    have := of_decide_eq_true o
    exact decide_eq_true (by omega)
  · rw [x1.1, y1.1]; exact hrs
  · rw [x2.1, y2.1]
    refine key _ _ ?_
    intro e o
    subst e
    have := of_decide_eq_true o
    exact decide_eq_true (by omega)

set_option maxHeartbeats 2000000 in
/-- Of a function of a number: what it tells of the lesser one is the lesser one. -/
theorem lessF_any (K : Nat) (caps : Array Value) (N : Int → Int) (B : Int → Bool) (a b : Int) (p q : Nat) (w : World) (eg : ∀ (args : Array Value) (w : World), (callFunc K args).run Tryd.prog w = .ok (.enter K args) w)
    (hp : w.cell? ⟨p, 0, none⟩ = some (.int .i64 a)) (hq : w.cell? ⟨q, 0, none⟩ = some (.int .i64 b)) (lq : q < w.heap.size)
    (hf : ∀ m w', Bl w w' → Calls Tryd.prog K (#[.int .i64 m] ++ caps) w' fun e w'' => e = .returned (.tuple #[.int .i64 (N m), .bool (B m)]) ∧ Bl w' w'')
    (ho : B a = true → B b = true → N a ≤ N b) :
    Calls Tryd.prog 30 #[.func (.func K) #[] caps, .pointer (some ⟨p, 0, none⟩), .pointer (some ⟨q, 0, none⟩)] w fun e w' => e = .returned (.bool true) ∧ Bl w w' := by
  have F1 := hf a
  have F2 := hf b
  have hcase : (B a = false) ∨ (B a = true ∧ B b = false) ∨ (B a = true ∧ B b = true ∧ N a ≤ N b) := by
    cases h1 : B a <;> cases h2 : B b <;> simp_all
  generalize N a = x at *
  generalize N b = y at *
  generalize B a = xb at *
  generalize B b = yb at *
  have H1 := hideP F1
  have H2 := hideP F2
  have HQ := hideP hq
  clear F1 F2 hf ho hq
  rcases hcase with rfl | ⟨rfl, rfl⟩ | ⟨rfl, rfl, o1⟩
  all_goals
    go_enter Tryd.func30, Tryd.ntmps30
    go_wp2_with fail
    refine (H1.out _ (Bl.refl _)).mono ?_
    rintro e w1 ⟨rfl, h1⟩
    have c1 : w1.cell? ⟨q, 0, none⟩ = some (.int .i64 b) := by rw [bl_cell h1 _ _ lq]; exact HQ.out
    go_wp2_with fail
    refine (H2.out _ h1).mono ?_
    rintro e w2 ⟨rfl, h2⟩
    go_wp2
    go_ret
    exact ⟨rfl, h1.trans h2⟩

theorem ord2_any (n c : Int) (p : Nat) (w : World) (hp : w.cell? ⟨p, 0, none⟩ = some (.int .i64 c)) :
    Calls Tryd.prog 31 #[.int .i64 n, .pointer (some ⟨p, 0, none⟩)] w fun e w' => e = .returned (.tuple #[.int .i64 (faN n c), .bool (faB n c)]) ∧ Bl w w' := by
  go_enter Tryd.func31, Tryd.ntmps31
  go_wp2_with (go_at_call 18; refine (fadd_any _ _ _).mono ?_; rintro e w1 ⟨rfl, h1⟩)
  go_ret2
  exact ⟨rfl, h1⟩
theorem ord3_any (n c m : Int) (p q : Nat) (w : World) (hp : w.cell? ⟨p, 0, none⟩ = some (.int .i64 c)) (hq : w.cell? ⟨q, 0, none⟩ = some (.int .i64 m)) :
    Calls Tryd.prog 32 #[.int .i64 n, .pointer (some ⟨p, 0, none⟩), .pointer (some ⟨q, 0, none⟩)] w fun e w' => e = .returned (.tuple #[.int .i64 (fmN n c m), .bool (fmB n c m)]) ∧ Bl w w' := by
  go_enter Tryd.func32, Tryd.ntmps32
  go_wp2_with (go_at_call 11; refine (fmul_any _ _ _ _).mono ?_; rintro e w1 ⟨rfl, h1⟩)
  go_ret2
  exact ⟨rfl, h1⟩
theorem ord4_any (n m : Int) (p : Nat) (w : World) (hp : w.cell? ⟨p, 0, none⟩ = some (.int .i64 m)) :
    Calls Tryd.prog 33 #[.int .i64 n, .pointer (some ⟨p, 0, none⟩)] w fun e w' => e = .returned (.tuple #[.int .i64 (fqN n m), .bool (fqB n m)]) ∧ Bl w w' := by
  go_enter Tryd.func33, Tryd.ntmps33
  go_wp2_with (go_at_call 21; refine (froot_any _ _ _).mono ?_; rintro e w1 ⟨rfl, h1⟩)
  go_ret2
  exact ⟨rfl, h1⟩
theorem ord5_any (n c m : Int) (p q : Nat) (w : World) (hp : w.cell? ⟨p, 0, none⟩ = some (.int .i64 c)) (hq : w.cell? ⟨q, 0, none⟩ = some (.int .i64 m)) :
    Calls Tryd.prog 34 #[.int .i64 n, .pointer (some ⟨p, 0, none⟩), .pointer (some ⟨q, 0, none⟩)] w fun e w' => e = .returned (.tuple #[.int .i64 (fdN n c m), .bool (fdB n c m)]) ∧ Bl w w' := by
  go_enter Tryd.func34, Tryd.ntmps34
  go_wp2_with (go_at_call 13; refine (fdiv_any _ _ _ _).mono ?_; rintro e w1 ⟨rfl, h1⟩)
  go_ret2
  exact ⟨rfl, h1⟩

/-- The four cells of FxOrder, in a world. -/
structure Four (w : World) (z : Nat) (a b c m : Int) : Prop where
  a : w.cell? ⟨z, 0, none⟩ = some (.int .i64 a)
  b : w.cell? ⟨z + 1, 0, none⟩ = some (.int .i64 b)
  c : w.cell? ⟨z + 2, 0, none⟩ = some (.int .i64 c)
  m : w.cell? ⟨z + 3, 0, none⟩ = some (.int .i64 m)
  size : z + 3 < w.heap.size
theorem Four.later {w w' : World} {z : Nat} {a b c m : Int} (h : Four w z a b c m) (k : Bl w w') : Four w' z a b c m := by
  have := h.size
  refine ⟨?_, ?_, ?_, ?_, by have := Below.size k; omega⟩
  · rw [bl_cell k _ _ (by omega)]; exact h.a
  · rw [bl_cell k _ _ (by omega)]; exact h.b
  · rw [bl_cell k _ _ (by omega)]; exact h.c
  · rw [bl_cell k _ _ (by omega)]; exact h.m

theorem lessAdd (a b c m : Int) (z : Nat) (w : World) (h : Four w z a b c m) (hab : a ≤ b) :
    Calls Tryd.prog 30 #[.func (.func 31) #[] #[.pointer (some ⟨z + 2, 0, none⟩)], .pointer (some ⟨z, 0, none⟩), .pointer (some ⟨z + 1, 0, none⟩)] w fun e w' => e = .returned (.bool true) ∧ Bl w w' :=
  lessF_any _ _ (fun n => faN n c) (fun n => faB n c) a b _ _ w (enters Tryd.func31 (by kernel_rfl) rfl) h.a h.b (by have := h.size; omega)
    (fun n w' k => by rw [app1]; exact ord2_any n c _ w' (h.later k).c) (fa_mono a b c hab)
theorem lessMul (a b c m : Int) (z : Nat) (w : World) (h : Four w z a b c m) (hab : a ≤ b) (hc : 0 ≤ c) :
    Calls Tryd.prog 30 #[.func (.func 32) #[] #[.pointer (some ⟨z + 2, 0, none⟩), .pointer (some ⟨z + 3, 0, none⟩)], .pointer (some ⟨z, 0, none⟩), .pointer (some ⟨z + 1, 0, none⟩)] w fun e w' => e = .returned (.bool true) ∧ Bl w w' :=
  lessF_any _ _ (fun n => fmN n c m) (fun n => fmB n c m) a b _ _ w (enters Tryd.func32 (by kernel_rfl) rfl) h.a h.b (by have := h.size; omega)
    (fun n w' k => by rw [app2]; exact ord3_any n c m _ _ w' (h.later k).c (h.later k).m) (fm_mono a b c m hab hc)
theorem lessRoot (a b c m : Int) (z : Nat) (w : World) (h : Four w z a b c m) (hab : a ≤ b) :
    Calls Tryd.prog 30 #[.func (.func 33) #[] #[.pointer (some ⟨z + 3, 0, none⟩)], .pointer (some ⟨z, 0, none⟩), .pointer (some ⟨z + 1, 0, none⟩)] w fun e w' => e = .returned (.bool true) ∧ Bl w w' :=
  lessF_any _ _ (fun n => fqN n m) (fun n => fqB n m) a b _ _ w (enters Tryd.func33 (by kernel_rfl) rfl) h.a h.b (by have := h.size; omega)
    (fun n w' k => by rw [app1]; exact ord4_any n m _ w' (h.later k).m) (fq_mono a b m hab)
theorem lessDiv (a b c m : Int) (z : Nat) (w : World) (h : Four w z a b c m) (hab : a ≤ b) (hc : 0 ≤ c) :
    Calls Tryd.prog 30 #[.func (.func 34) #[] #[.pointer (some ⟨z + 2, 0, none⟩), .pointer (some ⟨z + 3, 0, none⟩)], .pointer (some ⟨z, 0, none⟩), .pointer (some ⟨z + 1, 0, none⟩)] w fun e w' => e = .returned (.bool true) ∧ Bl w w' :=
  lessF_any _ _ (fun n => fdN n c m) (fun n => fdB n c m) a b _ _ w (enters Tryd.func34 (by kernel_rfl) rfl) h.a h.b (by have := h.size; omega)
    (fun n w' k => by rw [app2]; exact ord5_any n c m _ _ w' (h.later k).c (h.later k).m) (fd_mono a b c m hab hc)

set_option maxHeartbeats 1000000 in
theorem walk_FxOrder (a b c m : Int) (w : World) (ht : PowTab w) :
    Calls Tryd.prog 10 #[.int .i64 a, .int .i64 b, .int .i64 c, .int .i64 m] w fun e w' => e = .returned (.bool true) ∧ Bl w w' := by
  have HP := hideP ht
  clear ht
  obtain ⟨W, hW⟩ : ∃ W, W = (((w.alloc (.cells #[.int .i64 a] 3)).alloc (.cells #[.int .i64 b] 3)).alloc (.cells #[.int .i64 c] 3)).alloc (.cells #[.int .i64 m] 3) := ⟨_, rfl⟩
  have b0 : Bl w W := by rw [hW]; exact ((((Bl.refl _).alloc _).alloc _).alloc _).alloc _
  have four : Four W w.heap.size a b c m := by
    rw [hW]
    exact ⟨by simp [go_sem, World.cell?_alloc_past], by simp [go_sem, World.cell?_alloc_past], by simp [go_sem, World.cell?_alloc_past], by simp [go_sem], by simp⟩
  have HW := hideP hW
  have HF := hideP four
  clear hW four
  by_cases hab : b < a
  · have kd : decide (b < a) = true := decide_eq_true hab
    go_enter Tryd.func10, Tryd.ntmps10
    go_wp2_with fail
    rw [← HW.out]
    refine (awake2_any _ (HP.out.later b0)).mono ?_
    rintro e w7 ⟨rfl, h7⟩
    go_wp2
    go_ret
    exact ⟨rfl, b0.trans h7⟩
  have kd : decide (b < a) = false := decide_eq_false hab
  by_cases hc : c < 0
  · go_enter Tryd.func10, Tryd.ntmps10
    go_wp2_with fail
    rw [← HW.out]
    refine (awake2_any _ (HP.out.later b0)).mono ?_
    rintro e w7 ⟨rfl, h7⟩
    go_wp2
    go_ret
    exact ⟨rfl, b0.trans h7⟩
  go_enter Tryd.func10, Tryd.ntmps10
  go_wp2_with fail
  rw [← HW.out]
  refine (lessAdd a b c m _ W HF.out (by omega)).mono ?_
  rintro e w1 ⟨rfl, h1⟩
  have HB1 := hideP h1
  clear h1
  go_wp2_with fail
  refine (lessMul a b c m _ w1 (HF.out.later HB1.out) (by omega) (by omega)).mono ?_
  rintro e w2 ⟨rfl, h2⟩
  have HB2 := hideP (HB1.out.trans h2)
  clear h2
  go_wp2_with fail
  refine (lessRoot a b c m _ w2 (HF.out.later HB2.out) (by omega)).mono ?_
  rintro e w3 ⟨rfl, h3⟩
  have HB3 := hideP (HB2.out.trans h3)
  clear h3
  go_wp2_with fail
  refine (lessDiv a b c m _ w3 (HF.out.later HB3.out) (by omega) (by omega)).mono ?_
  rintro e w4 ⟨rfl, h4⟩
  have HB4 := hideP (b0.trans (HB3.out.trans h4))
  clear h4
  go_wp2_with fail
  refine (awake2_any _ (HP.out.later HB4.out)).mono ?_
  rintro e w7 ⟨rfl, h7⟩
  go_wp2
  go_ret
  exact ⟨rfl, HB4.out.trans h7⟩
end Go.Proofs.YtkigikccdoaljaaDoor
