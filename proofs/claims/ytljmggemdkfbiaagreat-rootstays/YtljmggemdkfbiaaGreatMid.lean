/- Contracts of wide.times, product, order, outward, rounded. -/
import Derived.Test.YtljmggemdkfbiaaGreatLeaf
import Derived.Deep.RegionHeld3
import Derived.Deep.RegionWith
import Derived.BigQuiet
namespace Go.Proofs.YtljmggemdkfbiaaGreat
open Go.RowKit
set_option linter.unusedSimpArgs false
set_option linter.unusedVariables false

/-- Of what was there nothing has turned. -/
def Bl (w w' : World) : Prop := Below w.heap.size w w'
theorem Bl.refl (w : World) : Bl w w := Below.refl _ _
theorem Bl.trans {a b c : World} (h : Bl a b) (k : Bl b c) : Bl a c := Below.trans h (Below.mono k h.size)
theorem Bl.alloc {a b : World} (h : Bl a b) (o : Obj) : Bl a (b.alloc o) := Below.alloc h h.size o
theorem Bl.drew {a b : World} (h : Bl a b) : Bl a b.drew := Below.drew h

theorem Bl.set {a b : World} (h : Bl a b) {p : Addr} (hp : a.heap.size ≤ p.block) (v : Value) : Bl a (b.setCell p v) := Below.setCell h hp v
theorem bl_cell {W w1 : World} (hb : Bl W w1) : ∀ b o, b < W.heap.size → w1.cell? ⟨b, o, none⟩ = W.cell? ⟨b, o, none⟩ := fun b o h => Below.cell hb (p := ⟨b, o, none⟩) h
theorem bl_froz {W w1 : World} (hb : Bl W w1) : ∀ b o, b < W.heap.size → w1.frozen? ⟨b, o, none⟩ = W.frozen? ⟨b, o, none⟩ := fun b o h => Below.frozen hb (p := ⟨b, o, none⟩) h

/-- The two words of a number. -/
abbrev wd (n : Int) : Value := .agg #[.int .u64 (n / 18446744073709551616), .int .u64 (n % 18446744073709551616)]

theorem times_ex (x y : Int) (hx : U64 x) (hy : U64 y) (w : World) :
    Calls Tryz.prog 159 #[.int .u64 x, .int .u64 y] w fun e w' => e = .returned (wd (x * y)) ∧ ∃ o, w.alloc o = w' := by
  go_enter Tryz.func159, Tryz.ntmps159
  go_wp2_with (go_at_call 126; refine (mul64_any x y hx hy _).mono ?_; rintro e w' ⟨rfl, rfl⟩)
  simp [bodyPost, results, Tryz.results159, go_sem]
theorem times_any (x y : Int) (hx : U64 x) (hy : U64 y) (w : World) :
    Calls Tryz.prog 159 #[.int .u64 x, .int .u64 y] w fun e w' => e = .returned (wd (x * y)) ∧ Bl w w' := by
  refine (times_ex x y hx hy w).mono ?_
  rintro e w' ⟨rfl, o, rfl⟩
  exact ⟨rfl, (Bl.refl _).alloc _⟩

theorem szI_nn (n : Int) : 0 ≤ szI n := by unfold szI; split <;> omega
theorem szI_u64 (n : Int) (h : I64 n) : U64 (szI n) := by obtain ⟨a, b⟩ := h; unfold szI U64; split <;> omega

theorem product_any (a b : Int) (ha : I64 a) (hb : I64 b) (w : World) :
    Calls Tryz.prog 147 #[.int .i64 a, .int .i64 b] w fun e w' => e = .returned (wd (szI a * szI b)) ∧ Bl w w' := by
  go_enter Tryz.func147, Tryz.ntmps147
  go_wp2_with fail
  refine (size_any a ha _).mono ?_
  rintro e w' ⟨rfl, hw⟩
  subst hw
  go_wp2_with fail
  refine (size_any b hb _).mono ?_
  rintro e w' ⟨rfl, hw⟩
  subst hw
  go_wp2_with fail
  refine (times_any _ _ (szI_u64 a ha) (szI_u64 b hb) _).mono ?_
  rintro e w' ⟨rfl, hw⟩
  have c0 : w'.cell? ⟨w.heap.size, 0, none⟩ = some (.int .u64 0) := by rw [bl_cell hw _ _ (by simp)]; simp [go_sem]
  have c1 : w'.cell? ⟨w.heap.size, 1, none⟩ = some (.int .u64 0) := by rw [bl_cell hw _ _ (by simp)]; simp [go_sem]
  have f0 : w'.frozen? ⟨w.heap.size, 0, none⟩ = false := by rw [bl_froz hw _ _ (by simp)]; simp [go_sem]
  have f1 : w'.frozen? ⟨w.heap.size, 1, none⟩ = false := by rw [bl_froz hw _ _ (by simp)]; simp [go_sem]
  go_wp2
  simp [bodyPost, results, Tryz.results147, go_sem, c0, c1]
  exact Bl.set (Bl.set (((Bl.refl _).alloc _).trans hw) (Nat.le_refl _) _) (Nat.le_refl _) _

/-- The first one that is not 0. -/
def orI (p q : Int) : Int := if p = 0 then q else p
/-- cmp.Or at two numbers. -/
theorem or_any (b o : Nat) (p q : Int) (w : World) (h0 : w.cell? ⟨b, o, none⟩ = some (.int .i64 p)) (h1 : w.cell? ⟨b, o + 1, none⟩ = some (.int .i64 q)) :
    Calls Tryz.prog 223 #[.slice (some ⟨b, o, none⟩) 2 2] w fun e w' => e = .returned (.int .i64 (orI p q)) ∧ w' = w := by
  unfold orI
  by_cases hp : p = 0
  · subst hp
    rw [if_pos rfl]
    by_cases hq : q = 0
    · subst hq
      go_enter Tryz.func223, Tryz.ntmps223
      go_wp2
      go_loop [8] (fun i => ∃ k : Nat, k ≤ 2 ∧ i = .int .i64 k) (fun i => 2 - (intOf i).toNat)
      case atStart => exact ⟨0, by omega, rfl⟩
      case round =>
        obtain ⟨k, hk, rfl⟩ := hrel
        rcases (by omega : k = 0 ∨ k = 1 ∨ k = 2) with rfl | rfl | rfl
        · go_wp2
          go_round
          case rel => exact ⟨1, by omega, rfl⟩
          case measure => simp [intOf]
        · go_wp2
          go_round
          case rel => exact ⟨2, by omega, rfl⟩
          case measure => simp [intOf]
        · go_wp2
          go_ret
          exact ⟨rfl, rfl⟩
    · have hb : (q != 0) = true := by simpa using hq
      go_enter Tryz.func223, Tryz.ntmps223
      go_wp2
      go_loop [8] (fun i => ∃ k : Nat, k ≤ 1 ∧ i = .int .i64 k) (fun i => 2 - (intOf i).toNat)
      case atStart => exact ⟨0, by omega, rfl⟩
      case round =>
        obtain ⟨k, hk, rfl⟩ := hrel
        rcases (by omega : k = 0 ∨ k = 1) with rfl | rfl
        · go_wp2
          go_round
          case rel => exact ⟨1, by omega, rfl⟩
          case measure => simp [intOf]
        · go_wp2
          go_ret
          exact ⟨rfl, rfl⟩
  · rw [if_neg hp]
    have hb : (p != 0) = true := by simpa using hp
    clear hp
    go_enter Tryz.func223, Tryz.ntmps223
    go_wp2
    go_loop [8] (fun i => i = .int .i64 0) (fun i => 0)
    case atStart => rfl
    case round =>
      subst hrel
      go_wp2
      go_ret
      exact ⟨rfl, rfl⟩

theorem order_ex (x y : Int) (w : World) (hx : U64 (x / 18446744073709551616)) (hy : U64 (y / 18446744073709551616)) :
    Calls Tryz.prog 222 #[wd x, wd y] w fun e w' => e = .returned (.int .i64 (cmpI x y)) ∧ ∃ o1 o2 o3, (((w.alloc o1).alloc o2).alloc o3).drew = w' := by
  have hx1 : U64 (x % 18446744073709551616) := ⟨by omega, by omega⟩
  have hy1 : U64 (y % 18446744073709551616) := ⟨by omega, by omega⟩
  have hq : cmpI x y = orI (cmpI (x / 18446744073709551616) (y / 18446744073709551616)) (cmpI (x % 18446744073709551616) (y % 18446744073709551616)) := by
    unfold cmpI orI
    split <;> split <;> (try split) <;> (try split) <;> (try split) <;> omega
  rw [hq]
  clear hq
  unfold wd
  generalize x / 18446744073709551616 = x1 at *
  generalize x % 18446744073709551616 = x0 at *
  generalize y / 18446744073709551616 = y1 at *
  generalize y % 18446744073709551616 = y0 at *
  generalize hp : cmpI x1 y1 = p
  generalize hq : cmpI x0 y0 = q
  have Hp : Hid (cmpI x1 y1 = p) := hp
  have Hq : Hid (cmpI x0 y0 = q) := hq
  clear hp hq
  go_enter Tryz.func222, Tryz.ntmps222
  go_wp2
  go_region_held3 (fun w' => w'.cell? ⟨w.heap.size, 0, none⟩ = some (.int .u64 x1) ∧ w'.cell? ⟨w.heap.size, 1, none⟩ = some (.int .u64 x0) ∧ w'.cell? ⟨w.heap.size + 1, 0, none⟩ = some (.int .u64 y1) ∧ w'.cell? ⟨w.heap.size + 1, 1, none⟩ = some (.int .u64 y0)) (simp [go_sem, World.cell?_alloc_past])
    (first
      | (go_at_call_of 165 (Value.int .u64 x1); refine (cmpU_any x1 y1 _).mono ?_; rw [Hp.out]; rintro e w' ⟨rfl, rfl⟩)
      | (go_at_call_of 165 (Value.int .u64 x0); refine (cmpU_any x0 y0 _).mono ?_; rw [Hq.out]; rintro e w' ⟨rfl, rfl⟩)
      | (go_at_call 223; refine (or_any _ 0 p q _ (by simp [go_sem]) (by simp [go_sem])).mono ?_; rintro e w' ⟨rfl, rfl⟩))
  go_wp2
  go_ret
  exact ⟨rfl, _, _, _, rfl⟩
theorem order_any (x y : Int) (w : World) (hx : U64 (x / 18446744073709551616)) (hy : U64 (y / 18446744073709551616)) :
    Calls Tryz.prog 222 #[wd x, wd y] w fun e w' => e = .returned (.int .i64 (cmpI x y)) ∧ Bl w w' := by
  refine (order_ex x y w hx hy).mono ?_
  rintro e w' ⟨rfl, o1, o2, o3, rfl⟩
  exact ⟨rfl, ((((Bl.refl _).alloc _).alloc _).alloc _).drew⟩
end Go.Proofs.YtljmggemdkfbiaaGreat
