/- The walks of FxBetween, FxOrder. -/
import Derived.Test.YtkigikccdoaljaaDoorFxA
import Derived.Test.YtkigikccdoaljaaDoorMdC
namespace Go.Proofs.YtkigikccdoaljaaDoor
open Go.RowKit
set_option linter.unusedSimpArgs false
set_option linter.unusedVariables false

theorem fmB_md {a b m : Int} (h : fmB a b m = true) : mdB a b 16777216 m = true ∧ fmN a b m = mdN a b 16777216 m := by
  have := h
  unfold fmB at this
  simp only [Bool.and_eq_true] at this
  exact ⟨this.1.1, by unfold fmN; rw [h]; rfl⟩
theorem fdB_md {a b m : Int} (h : fdB a b m = true) : mdB a 16777216 b m = true ∧ fdN a b m = mdN a 16777216 b m := by
  have := h
  unfold fdB at this
  simp only [Bool.and_eq_true] at this
  exact ⟨this.1.1, by unfold fdN; rw [h]; rfl⟩
theorem fqB_ok {a m : Int} (h : fqB a m = true) : frB a = true ∧ 0 ≤ a ∧ modeB m = true := by
  unfold fqB at h
  simp only [Bool.and_eq_true, allB1] at h
  refine ⟨h.2, ?_, ?_⟩
  · rcases Int.lt_or_le a 0 with k | k
    · have hb := (fq_bad a m (.inr k)).2
      unfold fqB at hb
      rw [h.1.1, h.1.2, allB1, h.2] at hb
      cases hb
    · exact k
  · have := h.1.1
    unfold rtB rtG at this
    simp only [Bool.and_eq_true] at this
    exact this.1.2
theorem fm_order (a b : Int) (h1 : fmB a b 1 = true) (h0 : fmB a b 0 = true) (h2 : fmB a b 2 = true) : fmN a b 1 ≤ fmN a b 0 ∧ fmN a b 0 ≤ fmN a b 2 ∧ fmN a b 2 ≤ fmN a b 1 + 1 := by
  have x1 := fmB_md h1
  have x0 := fmB_md h0
  have x2 := fmB_md h2
  rw [x1.2, x0.2, x2.2]
  exact md_order a b 16777216 x1.1 x0.1 x2.1
theorem fd_order (a b : Int) (h1 : fdB a b 1 = true) (h0 : fdB a b 0 = true) (h2 : fdB a b 2 = true) : fdN a b 1 ≤ fdN a b 0 ∧ fdN a b 0 ≤ fdN a b 2 ∧ fdN a b 2 ≤ fdN a b 1 + 1 := by
  have x1 := fdB_md h1
  have x0 := fdB_md h0
  have x2 := fdB_md h2
  rw [x1.2, x0.2, x2.2]
  exact md_order a 16777216 b x1.1 x0.1 x2.1
theorem fq_order (a : Int) (h1 : fqB a 1 = true) (h0 : fqB a 0 = true) (h2 : fqB a 2 = true) : fqN a 1 ≤ fqN a 0 ∧ fqN a 0 ≤ fqN a 2 ∧ fqN a 2 ≤ fqN a 1 + 1 := by
  have ok := fqB_ok h1
  obtain ⟨r, t, er, r0, r1, t0, ep, ea, ht2, x1, x2, x0⟩ := fq_vals a ok.1 ok.2.1
  rw [x1.1, x2.1, x0.1]
  by_cases k : 0 < t
  · rw [decide_eq_true k]
    cases decide (r < t) <;> simp [upI] <;> omega
  · rw [decide_eq_false k, decide_eq_false (show ¬ r < t by omega)]
    simp [upI]; omega
theorem fmN_bd (a b m : Int) : -1125899906842624 ≤ fmN a b m ∧ fmN a b m ≤ 1125899906842624 := toN_bd _ _ fun h => by
  unfold fmB at h; simp only [Bool.and_eq_true] at h; exact h.1.2
theorem fdN_bd (a b m : Int) : -1125899906842624 ≤ fdN a b m ∧ fdN a b m ≤ 1125899906842624 := toN_bd _ _ fun h => by
  unfold fdB at h; simp only [Bool.and_eq_true] at h; exact h.1.2
theorem fqN_bd (a m : Int) : -1125899906842624 ≤ fqN a m ∧ fqN a m ≤ 1125899906842624 := toN_bd _ _ fun h => by
  unfold fqB at h; simp only [Bool.and_eq_true] at h; exact h.1.2
theorem faN_bd (a b : Int) : -1125899906842624 ≤ faN a b ∧ faN a b ≤ 1125899906842624 := toN_bd _ _ fun h => by
  unfold faB at h; simp only [Bool.and_eq_true] at h; exact h.1

theorem enters {f : FuncId} {fn : Func} {c : Code} (hf : Tryd.prog.funcs[f]? = some fn) (hname : (fn.name == "runtime.NumGoroutine") = false) (hb : fn.body = some c) :
    ∀ (args : Array Value) (w : World), (callFunc f args).run Tryd.prog w = .ok (.enter f args) w := by
  intro args w
  have h1 : fn.name ≠ "runtime.NumGoroutine" := by simpa using hname
  simp [callFunc, hf, h1, hb, mark]
set_option maxHeartbeats 2000000 in
/-- Of a function of the mode: what it tells lies so. -/
theorem between_any (K : Nat) (caps : Array Value) (N : Int → Int) (B : Int → Bool) (w : World) (eg : ∀ (args : Array Value) (w : World), (callFunc K args).run Tryd.prog w = .ok (.enter K args) w)
    (hf : ∀ m w', Bl w w' → Calls Tryd.prog K (#[.int .i64 m] ++ caps) w' fun e w'' => e = .returned (.tuple #[.int .i64 (N m), .bool (B m)]) ∧ Bl w' w'')
    (ho : B 1 = true → B 0 = true → B 2 = true → N 1 ≤ N 0 ∧ N 0 ≤ N 2 ∧ N 2 ≤ N 1 + 1) (hb : ∀ m, -1125899906842624 ≤ N m ∧ N m ≤ 1125899906842624) :
    Calls Tryd.prog 26 #[.func (.func K) #[] caps] w fun e w' => e = .returned (.bool true) ∧ Bl w w' := by
  have F1 := hf 1
  have F0 := hf 0
  have F2 := hf 2
  have b1 := hb 1
  have hcase : (B 1 = false) ∨ (B 1 = true ∧ B 0 = false) ∨ (B 1 = true ∧ B 0 = true ∧ B 2 = false) ∨ (B 1 = true ∧ B 0 = true ∧ B 2 = true ∧ N 1 ≤ N 0 ∧ N 0 ≤ N 2 ∧ N 2 ≤ N 1 + 1) := by
    cases h1 : B 1 <;> cases h0 : B 0 <;> cases h2 : B 2 <;> simp_all
  generalize N 1 = x at *
  generalize N 0 = y at *
  generalize N 2 = z at *
  generalize B 1 = xb at *
  generalize B 0 = yb at *
  generalize B 2 = zb at *
  have H1 := hideP F1
  have H0 := hideP F0
  have H2 := hideP F2
  obtain ⟨b1, b2⟩ := b1
  clear F1 F0 F2 hf ho hb
  rcases hcase with rfl | ⟨rfl, rfl⟩ | ⟨rfl, rfl, rfl⟩ | ⟨rfl, rfl, rfl, o1, o2, o3⟩
  all_goals
    go_enter Tryd.func26, Tryd.ntmps26
    go_wp2_with fail
    refine (H1.out _ (Bl.refl _)).mono ?_
    rintro e w1 ⟨rfl, h1⟩
    go_wp2_with fail
    refine (H0.out _ h1).mono ?_
    rintro e w2 ⟨rfl, h2⟩
    go_wp2_with fail
    refine (H2.out _ (h1.trans h2)).mono ?_
    rintro e w3 ⟨rfl, h3⟩
    go_wp2
    go_ret
    exact ⟨rfl, (h1.trans h2).trans h3⟩

/-- The three functions of the mode. -/
theorem btw2_any (a b m : Int) (p q : Nat) (w : World) (hp : w.cell? ⟨p, 0, none⟩ = some (.int .i64 a)) (hq : w.cell? ⟨q, 0, none⟩ = some (.int .i64 b)) :
    Calls Tryd.prog 27 #[.int .i64 m, .pointer (some ⟨p, 0, none⟩), .pointer (some ⟨q, 0, none⟩)] w fun e w' => e = .returned (.tuple #[.int .i64 (fmN a b m), .bool (fmB a b m)]) ∧ Bl w w' := by
  go_enter Tryd.func27, Tryd.ntmps27
  go_wp2_with (go_at_call 11; refine (fmul_any _ _ _ _).mono ?_; rintro e w1 ⟨rfl, h1⟩)
  go_ret2
  exact ⟨rfl, h1⟩
theorem btw3_any (a b m : Int) (p q : Nat) (w : World) (hp : w.cell? ⟨p, 0, none⟩ = some (.int .i64 a)) (hq : w.cell? ⟨q, 0, none⟩ = some (.int .i64 b)) :
    Calls Tryd.prog 28 #[.int .i64 m, .pointer (some ⟨p, 0, none⟩), .pointer (some ⟨q, 0, none⟩)] w fun e w' => e = .returned (.tuple #[.int .i64 (fdN a b m), .bool (fdB a b m)]) ∧ Bl w w' := by
  go_enter Tryd.func28, Tryd.ntmps28
  go_wp2_with (go_at_call 13; refine (fdiv_any _ _ _ _).mono ?_; rintro e w1 ⟨rfl, h1⟩)
  go_ret2
  exact ⟨rfl, h1⟩
theorem btw4_any (a m : Int) (p : Nat) (w : World) (hp : w.cell? ⟨p, 0, none⟩ = some (.int .i64 a)) :
    Calls Tryd.prog 29 #[.int .i64 m, .pointer (some ⟨p, 0, none⟩)] w fun e w' => e = .returned (.tuple #[.int .i64 (fqN a m), .bool (fqB a m)]) ∧ Bl w w' := by
  go_enter Tryd.func29, Tryd.ntmps29
  go_wp2_with (go_at_call 21; refine (froot_any _ _ _).mono ?_; rintro e w1 ⟨rfl, h1⟩)
  go_ret2
  exact ⟨rfl, h1⟩

theorem app1 (x p : Value) : #[x] ++ #[p] = #[x, p] := rfl
theorem app2 (x p q : Value) : #[x] ++ #[p, q] = #[x, p, q] := rfl
theorem btwMul (a b : Int) (p q : Nat) (w : World) (hp : w.cell? ⟨p, 0, none⟩ = some (.int .i64 a)) (hq : w.cell? ⟨q, 0, none⟩ = some (.int .i64 b)) (lp : p < w.heap.size) (lq : q < w.heap.size) :
    Calls Tryd.prog 26 #[.func (.func 27) #[] #[.pointer (some ⟨p, 0, none⟩), .pointer (some ⟨q, 0, none⟩)]] w fun e w' => e = .returned (.bool true) ∧ Bl w w' :=
  between_any _ _ (fmN a b) (fmB a b) w (enters Tryd.func27 (by kernel_rfl) rfl)
    (fun m w' h => by rw [app2]; exact btw2_any a b m p q w' (by rw [bl_cell h _ _ lp]; exact hp) (by rw [bl_cell h _ _ lq]; exact hq)) (fm_order a b) (fmN_bd a b)
theorem btwDiv (a b : Int) (p q : Nat) (w : World) (hp : w.cell? ⟨p, 0, none⟩ = some (.int .i64 a)) (hq : w.cell? ⟨q, 0, none⟩ = some (.int .i64 b)) (lp : p < w.heap.size) (lq : q < w.heap.size) :
    Calls Tryd.prog 26 #[.func (.func 28) #[] #[.pointer (some ⟨p, 0, none⟩), .pointer (some ⟨q, 0, none⟩)]] w fun e w' => e = .returned (.bool true) ∧ Bl w w' :=
  between_any _ _ (fdN a b) (fdB a b) w (enters Tryd.func28 (by kernel_rfl) rfl)
    (fun m w' h => by rw [app2]; exact btw3_any a b m p q w' (by rw [bl_cell h _ _ lp]; exact hp) (by rw [bl_cell h _ _ lq]; exact hq)) (fd_order a b) (fdN_bd a b)
theorem btwRoot (a : Int) (p : Nat) (w : World) (hp : w.cell? ⟨p, 0, none⟩ = some (.int .i64 a)) (lp : p < w.heap.size) :
    Calls Tryd.prog 26 #[.func (.func 29) #[] #[.pointer (some ⟨p, 0, none⟩)]] w fun e w' => e = .returned (.bool true) ∧ Bl w w' :=
  between_any _ _ (fqN a) (fqB a) w (enters Tryd.func29 (by kernel_rfl) rfl)
    (fun m w' h => by rw [app1]; exact btw4_any a m p w' (by rw [bl_cell h _ _ lp]; exact hp)) (fq_order a) (fqN_bd a)
end Go.Proofs.YtkigikccdoaljaaDoor
