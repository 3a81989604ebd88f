/- A measurement of nothing changes no number of a triangle of points, and no X; the spread is r. Conditions: none (every input). -/
import Derived.Test.YtljmggemdkfbiaaGreatVA
import Derived.Test.YtljmggemdkfbiaaGreatVH
import Derived.Test.YtljmggemdkfbiaaGreatVD
import Derived.Test.YtljmggemdkfbiaaGreatVJ
import Derived.Test.YtljmggemdkfbiaaGreatFr3
import Derived.Test.YtljmggemdkfbiaaGreatVF
import Derived.Test.YtljmggemdkfbiaaGreatVI
import Derived.ProofKit
import Derived.OpenShut
import Derived.Lib.SmallJoins
import Derived.Carry
/- Contracts of the document's Clear, Turn, Square of layer 7, and of the laws' sides. Written by genTl.py. -/
namespace Go.Proofs.YtljmggemdkfbiaaGreat
open Go.RowKit
set_option linter.unusedSimpArgs false
set_option linter.unusedVariables false

/-- Cleared. -/
def clrI (f : Nat → Nat → Int) (i k : Nat) : Int := if k ≤ i then f i k else 0
/-- A square. -/
def sqI (n : Nat) (f : Nat → Nat → Int) : Nat → Nat → Int := mulI n f (fun i k => f k i)
theorem mulI_congr7 {M : Nat} {a b a' b' : Nat → Nat → Int} {i k : Nat} (h1 : ∀ j, j < M → a i j = a' i j) (h2 : ∀ j, j < M → b j k = b' j k) : mulI M a b i k = mulI M a' b' i k := by
  unfold mulI
  congr 1
  · exact List.map_congr_left fun j hj => h1 j (by simpa using hj)
  · exact List.map_congr_left fun j hj => h2 j (by simpa using hj)
theorem ofL_mk7 {R C : Nat} (f : Nat → Nat → Int) {i k : Nat} (hi : i < R) (hk : k < C) : ofL C (mk R C f) i k = f i k := by
  have h := ofL_get (R := R) (M := C) (ns := mk R C f) (by rw [mk_len]) hi hk
  rw [mk_get f hi hk] at h
  exact (Option.some.inj h).symm

set_option maxHeartbeats 2000000 in
theorem ref7Clear_any (pa : Option Addr) (na ca : Nat) (xa : List Int) (n : Nat) (w : World) (hd : Dim n n) (ha : Rq 1 cI w (.slice pa na ca) xa) (la : xa.length = n * n) (lna : na = n * n) :
    Calls Tryz.prog 11 #[.slice pa na ca, .int .i64 n] w fun e w' => ∃ p cap, e = .returned (.slice p (n * n) cap) ∧ Rw 1 cellsI w' (.slice p (n * n) cap) (mk n n (clrI (ofL n xa))) ∧ Bl w w' := by
  obtain ⟨i0, hi, hz0, hz1, hz2⟩ := info_parts Tryz.info_I
  have fm : Tryz.prog.follows .mixedOrders = true := by kernel_rfl
  have CA : ∀ i j, i < n → j < n → ∃ b o, pa = some ⟨b, o, none⟩ ∧ ∀ u, Bl w u → u.cell? ⟨b, o + (i * n + j), none⟩ = some (.int .i64 (ofL n xa i j)) := by
    intro i j hi' hj
    have hg := ofL_get la hi' hj
    rcases ha with ⟨_, _, _, h0, _⟩ | ⟨b, o, cc, e, _, hlt, HX⟩
    · rw [h0] at hg; simp at hg
    · cases e
      exact ⟨b, o, rfl, fun u hu => (bl_cell hu _ _ hlt).trans (cellI HX hg (wr := w))⟩
  have HCA := hideP CA
  have hR16 := hd.r2
  have HLA := hideP lna
  clear CA ha la lna
  generalize ofL n xa = fa at *
  go_enter Tryz.func11, Tryz.ntmps11
  go_wp2_with fail
  go_loopw [5, 6] (fun v i wr => ∃ j : Nat, i = .int .i64 j ∧ j ≤ n ∧ wr.ownsRow w.heap.size 3 1 v (mk j n (clrI fa)).length ((mk j n (clrI fa)).flatMap cellsI) ∧ Bl w wr) (fun _ i _ => n - (intOf i).toNat)
  case atStart => exact ⟨0, rfl, Nat.zero_le _, World.ownsRow_nil _ _ _ _, Bl.refl _⟩
  case round =>
    obtain ⟨j, rfl, hj, hown, hB⟩ := hrel
    by_cases hlt : j < n
    · go_wp2_with fail
      go_loopw [5, 7] (fun v i wr => ∃ k : Nat, i = .int .i64 k ∧ k ≤ n ∧ wr.ownsRow w.heap.size 3 1 v (mk j n (clrI fa) ++ rowM k (clrI fa) j).length ((mk j n (clrI fa) ++ rowM k (clrI fa) j).flatMap cellsI) ∧ Bl w wr) (fun _ i _ => n - (intOf i).toNat)
      case atStart => exact ⟨0, rfl, Nat.zero_le _, by simpa [rowM] using hown, hB⟩
      case round =>
        clear hown hB
        obtain ⟨k, rfl, hk, hown, hB⟩ := hrel
        by_cases hlt2 : k < n
        · have hlen : (mk j n (clrI fa) ++ rowM k (clrI fa) j).length ≤ 256 := by
            have h1 : j * n + k < n * n := mk_idx hlt hlt2
            have h2 : n * n ≤ 256 := Nat.mul_le_mul hR16 hR16
            rw [List.length_append, mk_len, rowM_len]
            omega
          have HT := hideP (show mk j n (clrI fa) ++ rowM (k + 1) (clrI fa) j = (mk j n (clrI fa) ++ rowM k (clrI fa) j) ++ [(clrI fa) j k] by rw [rowM_succ, List.append_assoc])
          by_cases hki : k ≤ j
          · have hki' : ¬ ((k : Int) > j) := by omega
            obtain ⟨x, hx⟩ : ∃ x, x = fa j k := ⟨_, rfl⟩
            have HT2 := hideP (show (mk j n (clrI fa) ++ rowM k (clrI fa) j) ++ [(clrI fa) j k] = (mk j n (clrI fa) ++ rowM k (clrI fa) j) ++ [x] by rw [hx, show clrI fa j k = fa j k from if_pos hki])
            have HT3 := hideP (HT.out.trans HT2.out)
            obtain ⟨b, o, rfl, CX⟩ := HCA.out j k hlt hlt2
            obtain ⟨a1, q1, e1, e2, hq1, hq3, hq5, hq6⟩ := place hd hlt hlt2
            rw [← e2] at CX
            rw [← HLA.out] at hq5
            have cx := CX wr hB
            rw [← hx] at cx
            clear CX e1 e2
            clear HT HT2
            have HX := hideP hx
            clear hx
            generalize mk j n (clrI fa) ++ rowM k (clrI fa) j = ys at *
            go_wp2_with (at_builtin; refine wpList_append_own _ rfl _ _ 22 rfl w.heap.size 3 i0 (.int .i64 0) 1 8 Tryz.underlying22 hi hz0 hz1 hz2 rfl (by decide) _ _ _ rfl (hown.alloc _) ⟨_, 0, none⟩ 1 1 (cellsI x) rfl rfl (newI_cells _ _ _) (oneI_cells _) (by unfold maxLen; omega) (by omega) (by have := hB.size; simp; omega) ?_; intro v' w1 hown' hgrow _)
            have R1 := own_more (ys := [x]) (hB.alloc _) (Nat.le_refl _) (hown.alloc _) (by simpa using hown') rfl hgrow
            clear hown hown' hgrow
            go_wp2
            go_roundw
            case rel => exact ⟨k + 1, by simp, hlt2, by rw [HT3.out]; exact R1.2, R1.1⟩
            case measure => simp [intOf]; omega
          · have hki' : (k : Int) > j := by omega
            obtain ⟨x, hx⟩ : ∃ x, x = (0 : Int) := ⟨_, rfl⟩
            have HT2 := hideP (show (mk j n (clrI fa) ++ rowM k (clrI fa) j) ++ [(clrI fa) j k] = (mk j n (clrI fa) ++ rowM k (clrI fa) j) ++ [x] by rw [hx, show clrI fa j k = 0 from if_neg hki])
            have HT3 := hideP (HT.out.trans HT2.out)
  
            clear HT HT2
            subst hx
            generalize mk j n (clrI fa) ++ rowM k (clrI fa) j = ys at *
            go_wp2_with (at_builtin; refine wpList_append_own _ rfl _ _ 22 rfl w.heap.size 3 i0 (.int .i64 0) 1 8 Tryz.underlying22 hi hz0 hz1 hz2 rfl (by decide) _ _ _ rfl (hown.alloc _) ⟨_, 0, none⟩ 1 1 (cellsI (0 : Int)) rfl rfl (newI_cells _ _ _) (oneI_cells _) (by unfold maxLen; omega) (by omega) (by have := hB.size; simp; omega) ?_; intro v' w1 hown' hgrow _)
            have R1 := own_more (ys := [(0 : Int)]) (hB.alloc _) (Nat.le_refl _) (hown.alloc _) (by simpa using hown') rfl hgrow
            clear hown hown' hgrow
            go_wp2
            go_roundw
            case rel => exact ⟨k + 1, by simp, hlt2, by rw [HT3.out]; exact R1.2, R1.1⟩
            case measure => simp [intOf]; omega
        · obtain rfl : k = n := by omega
          have HT := hideP (mk_succ j k (clrI fa))
          go_wp2_with fail
          go_roundw
          case rel => exact ⟨j + 1, by simp, hlt, by rw [HT.out]; exact hown, hB⟩
          case measure => simp [intOf]; omega
    · obtain rfl : j = n := by omega
      have RW := hideP (Rw.of_own cellsI_len hown)
      obtain ⟨p', cap', hv, _, _⟩ := RW.out.cut
      rw [mk_len] at hv
      clear hown
      subst hv
      go_wp2
      go_ret
      exact ⟨p', cap', rfl, RW.out, hB⟩

set_option maxHeartbeats 2000000 in
theorem ref7Turn_any (pa : Option Addr) (na ca : Nat) (xa : List Int) (n : Nat) (w : World) (hd : Dim n n) (ha : Rq 1 cI w (.slice pa na ca) xa) (la : xa.length = n * n) (lna : na = n * n) :
    Calls Tryz.prog 70 #[.slice pa na ca, .int .i64 n] w fun e w' => ∃ p cap, e = .returned (.slice p (n * n) cap) ∧ Rw 1 cellsI w' (.slice p (n * n) cap) (mk n n (fun i k => ofL n xa k i)) ∧ Bl w w' := by
  obtain ⟨i0, hi, hz0, hz1, hz2⟩ := info_parts Tryz.info_I
  have fm : Tryz.prog.follows .mixedOrders = true := by kernel_rfl
  have CA : ∀ i j, i < n → j < n → ∃ b o, pa = some ⟨b, o, none⟩ ∧ ∀ u, Bl w u → u.cell? ⟨b, o + (i * n + j), none⟩ = some (.int .i64 (ofL n xa i j)) := by
    intro i j hi' hj
    have hg := ofL_get la hi' hj
    rcases ha with ⟨_, _, _, h0, _⟩ | ⟨b, o, cc, e, _, hlt, HX⟩
    · rw [h0] at hg; simp at hg
    · cases e
      exact ⟨b, o, rfl, fun u hu => (bl_cell hu _ _ hlt).trans (cellI HX hg (wr := w))⟩
  have HCA := hideP CA
  have hR16 := hd.r2
  have HLA := hideP lna
  clear CA ha la lna
  generalize ofL n xa = fa at *
  go_enter Tryz.func70, Tryz.ntmps70
  go_wp2_with fail
  go_loopw [5, 6] (fun v i wr => ∃ j : Nat, i = .int .i64 j ∧ j ≤ n ∧ wr.ownsRow w.heap.size 3 1 v (mk j n (fun i k => fa k i)).length ((mk j n (fun i k => fa k i)).flatMap cellsI) ∧ Bl w wr) (fun _ i _ => n - (intOf i).toNat)
  case atStart => exact ⟨0, rfl, Nat.zero_le _, World.ownsRow_nil _ _ _ _, Bl.refl _⟩
  case round =>
    obtain ⟨j, rfl, hj, hown, hB⟩ := hrel
    by_cases hlt : j < n
    · go_wp2_with fail
      go_loopw [5, 7] (fun v i wr => ∃ k : Nat, i = .int .i64 k ∧ k ≤ n ∧ wr.ownsRow w.heap.size 3 1 v (mk j n (fun i k => fa k i) ++ rowM k (fun i k => fa k i) j).length ((mk j n (fun i k => fa k i) ++ rowM k (fun i k => fa k i) j).flatMap cellsI) ∧ Bl w wr) (fun _ i _ => n - (intOf i).toNat)
      case atStart => exact ⟨0, rfl, Nat.zero_le _, by simpa [rowM] using hown, hB⟩
      case round =>
        clear hown hB
        obtain ⟨k, rfl, hk, hown, hB⟩ := hrel
        by_cases hlt2 : k < n
        · have hlen : (mk j n (fun i k => fa k i) ++ rowM k (fun i k => fa k i) j).length ≤ 256 := by
            have h1 : j * n + k < n * n := mk_idx hlt hlt2
            have h2 : n * n ≤ 256 := Nat.mul_le_mul hR16 hR16
            rw [List.length_append, mk_len, rowM_len]
            omega
          have HT := hideP (show mk j n (fun i k => fa k i) ++ rowM (k + 1) (fun i k => fa k i) j = (mk j n (fun i k => fa k i) ++ rowM k (fun i k => fa k i) j) ++ [(fun i k => fa k i) j k] by rw [rowM_succ, List.append_assoc])
          obtain ⟨x, hx⟩ : ∃ x, x = fa k j := ⟨_, rfl⟩
          have HT2 := hideP (show (mk j n (fun i k => fa k i) ++ rowM k (fun i k => fa k i) j) ++ [(fun i k => fa k i) j k] = (mk j n (fun i k => fa k i) ++ rowM k (fun i k => fa k i) j) ++ [x] by rw [hx])
          have HT3 := hideP (HT.out.trans HT2.out)
          obtain ⟨b, o, rfl, CX⟩ := HCA.out k j hlt2 hlt
          obtain ⟨a1, q1, e1, e2, hq1, hq3, hq5, hq6⟩ := place hd hlt2 hlt
          rw [← e2] at CX
          rw [← HLA.out] at hq5
          have cx := CX wr hB
          rw [← hx] at cx
          clear CX e1 e2
          clear HT HT2
          have HX := hideP hx
          clear hx
          generalize mk j n (fun i k => fa k i) ++ rowM k (fun i k => fa k i) j = ys at *
          go_wp2_with (at_builtin; refine wpList_append_own _ rfl _ _ 22 rfl w.heap.size 3 i0 (.int .i64 0) 1 8 Tryz.underlying22 hi hz0 hz1 hz2 rfl (by decide) _ _ _ rfl (hown.alloc _) ⟨_, 0, none⟩ 1 1 (cellsI x) rfl rfl (newI_cells _ _ _) (oneI_cells _) (by unfold maxLen; omega) (by omega) (by have := hB.size; simp; omega) ?_; intro v' w1 hown' hgrow _)
          have R1 := own_more (ys := [x]) (hB.alloc _) (Nat.le_refl _) (hown.alloc _) (by simpa using hown') rfl hgrow
          clear hown hown' hgrow
          go_wp2
          go_roundw
          case rel => exact ⟨k + 1, by simp, hlt2, by rw [HT3.out]; exact R1.2, R1.1⟩
          case measure => simp [intOf]; omega
        · obtain rfl : k = n := by omega
          have HT := hideP (mk_succ j k (fun i k => fa k i))
          go_wp2_with fail
          go_roundw
          case rel => exact ⟨j + 1, by simp, hlt, by rw [HT.out]; exact hown, hB⟩
          case measure => simp [intOf]; omega
    · obtain rfl : j = n := by omega
      have RW := hideP (Rw.of_own cellsI_len hown)
      obtain ⟨p', cap', hv, _, _⟩ := RW.out.cut
      rw [mk_len] at hv
      clear hown
      subst hv
      go_wp2
      go_ret
      exact ⟨p', cap', rfl, RW.out, hB⟩

set_option maxHeartbeats 1000000 in
theorem ref7Square_any (pa : Option Addr) (na ca : Nat) (xa : List Int) (n : Nat) (w : World) (hd : Dim n n) (ha : Rq 1 cI w (.slice pa na ca) xa) (la : xa.length = n * n) (lna : na = n * n) (sa : Sml 100 xa) :
    Calls Tryz.prog 32 #[.slice pa na ca, .int .i64 n] w fun e w' => ∃ p cap, e = .returned (.slice p (n * n) cap) ∧ Rw 1 cellsI w' (.slice p (n * n) cap) (mk n n (sqI n (ofL n xa))) ∧ Bl w w' := by
  have T := hideP (ref7Turn_any pa na ca xa n w hd ha la lna)
  have st : Sml 100 (mk n n (fun i k => ofL n xa k i)) := by
    intro x hx
    obtain ⟨i, hi, hx⟩ := List.mem_flatMap.1 hx
    obtain ⟨k, hk, rfl⟩ := List.mem_map.1 hx
    exact ofL_sml la sa k i (by simpa using hk) (by simpa using hi)
  obtain ⟨xt, hxt⟩ : ∃ xt, xt = mk n n (fun i k => ofL n xa k i) := ⟨_, rfl⟩
  have hlt : xt.length = n * n := by rw [hxt, mk_len]
  rw [← hxt] at T st
  have M : ∀ p cap (u : World), Bl w u → Rw 1 cellsI u (.slice p (n * n) cap) xt → Calls Tryz.prog 69 #[.slice pa na ca, .int .i64 n, .int .i64 n, .slice p (n * n) cap, .int .i64 n] u fun e w' => ∃ p cap, e = .returned (.slice p (n * n) cap) ∧ Rw 1 cellsI w' (.slice p (n * n) cap) (mk n n (mulI n (ofL n xa) (ofL n xt))) ∧ Bl u w' := fun p cap (u : World) (hu : Bl w u) (hr : Rw 1 cellsI u (.slice p (n * n) cap) xt) => ref6Mul_any pa p na ca (n * n) cap xa xt n n n u hd hd (ha.later hu) hr.q la hlt lna rfl sa st
  have M := hideP M
  have HE := hideP (show mk n n (mulI n (ofL n xa) (ofL n xt)) = mk n n (sqI n (ofL n xa)) from
    mk_congr fun i k hi hk => mulI_congr7 (fun _ _ => rfl) (fun j hj => by rw [hxt]; exact ofL_mk7 _ hj hk))
  clear ha la sa st hxt hlt lna
  go_enter Tryz.func32, Tryz.ntmps32
  go_wp2_with fail
  refine T.out.mono ?_
  rintro e w1 ⟨p, cap, rfl, hr, h1⟩
  go_wp2_with fail
  refine (M.out _ _ _ h1 hr).mono ?_
  rintro e w2 ⟨p2, cap2, rfl, hr2, h2⟩
  rw [HE.out] at hr2
  have HR := hideP hr2
  clear hr hr2 T M
  go_wp2
  go_ret
  exact ⟨p2, cap2, rfl, HR.out, h1.trans h2⟩
end Go.Proofs.YtljmggemdkfbiaaGreat

/- Root, as the program fills it, number by number, is the document's, column by column; of a square of whole numbers (layer 7). -/
namespace Go.Proofs.YtljmggemdkfbiaaGreat
open Go.RowKit
set_option linter.unusedSimpArgs false
set_option linter.unusedVariables false

theorem clrI_sm {A : Int} {n : Nat} {f : Nat → Nat → Int} (hA : 0 ≤ A) (h : Sm2 A n n f) : Sm2 A n n (clrI f) := fun i k hi hk => by
  unfold clrI
  split
  · exact h i k hi hk
  · omega
end Go.Proofs.YtljmggemdkfbiaaGreat

/- RootStill's mathematics: an update by noughts, of whole numbers as points. -/
namespace Go.Proofs.YtljmggemdkfbiaaGreat
open Go.RowKit
set_option linter.unusedSimpArgs false
set_option linter.unusedVariables false

theorem wn_of {a : Int} (h : -1000 ≤ a ∧ a ≤ 1000) : Wn a := by unfold Wn; omega
theorem wholeN_it {a : Int} (h : -1000 ≤ a ∧ a ≤ 1000) : wholeN a = itN a := by
  have := wholesN_it (B := 1000) [a] (by intro x hx; simp at hx; omega) (by omega)
  simpa using this
theorem still_quot : ∀ r : Fin 6, 1 ≤ r.val → rootE (divE (itN r.val) (itN r.val)) = itN 1 ∧ divE (itN 0) (rootE (mulE (itN r.val) (itN r.val))) = itN 0 ∧ divE (itN 0) (itN r.val) = itN 0 := by
  rw [rootE_fast]
  intro r hr
  rcases (by omega : r.val = 1 ∨ r.val = 2 ∨ r.val = 3 ∨ r.val = 4 ∨ r.val = 5) with h | h | h | h | h <;> rw [h] <;> refine ⟨?_, ?_, ?_⟩ <;> kernel_rfl
theorem still_r {r : Int} (h1 : 1 ≤ r) (h5 : r ≤ 5) : rootE (divE (itN r) (itN r)) = itN 1 ∧ divE (itN 0) (rootE (mulE (itN r) (itN r))) = itN 0 ∧ divE (itN 0) (itN r) = itN 0 := by
  obtain ⟨n, rfl⟩ := Int.eq_ofNat_of_zero_le (show 0 ≤ r by omega)
  exact still_quot ⟨n, by omega⟩ (show 1 ≤ n by omega)
/-- The dot of points with noughts. -/
theorem dot_nought {n : Nat} {v : Nat → Int} (hv : ∀ i, i < n → -5 ≤ v i ∧ v i ≤ 5) (hn : n ≤ 16) : dotN ((linJ n v).map itN) ((linJ n fun _ => (0 : Int)).map itN) = itN 0 := by
  rw [dotN_it (xs := linJ n v) (ys := linJ n fun _ => (0 : Int)) (by intro x hx; obtain ⟨i, hi, rfl⟩ := List.mem_map.1 hx; have := hv i (by simpa using hi); omega) (by intro x hx; obtain ⟨i, hi, rfl⟩ := List.mem_map.1 hx; omega) (by simp [linJ]; omega)]
  congr 1
  have : ∀ (l : List Nat), dotI (l.map v) (l.map fun _ => (0 : Int)) = 0 := by
    intro l
    induction l with
    | nil => rfl
    | cons a l ih =>
      have e : dotI ((a :: l).map v) ((a :: l).map fun _ => (0 : Int)) = v a * 0 + dotI (l.map v) (l.map fun _ => (0 : Int)) := by simp [dotI]
      rw [e, ih]
      omega
  exact this _
theorem dot_nought' {n : Nat} {v : Nat → Int} (hv : ∀ i, i < n → -5 ≤ v i ∧ v i ≤ 5) (hn : n ≤ 16) : dotN ((linJ n fun _ => (0 : Int)).map itN) ((linJ n v).map itN) = itN 0 := by
  rw [dotN_it (ys := linJ n v) (xs := linJ n fun _ => (0 : Int)) (by intro x hx; obtain ⟨i, hi, rfl⟩ := List.mem_map.1 hx; omega) (by intro x hx; obtain ⟨i, hi, rfl⟩ := List.mem_map.1 hx; have := hv i (by simpa using hi); omega) (by simp [linJ]; omega)]
  congr 1
  have : ∀ (l : List Nat), dotI (l.map fun _ => (0 : Int)) (l.map v) = 0 := by
    intro l
    induction l with
    | nil => rfl
    | cons a l ih =>
      have e : dotI ((a :: l).map fun _ => (0 : Int)) ((a :: l).map v) = 0 * v a + dotI (l.map fun _ => (0 : Int)) (l.map v) := by simp [dotI]
      rw [e, ih]
      omega
  exact this _
/-- What RootStill asks of the mathematics. -/
structure StillO (m : Nat) (S : Nat → Nat → En) (x : Nat → En) (r z : En) : Prop where
  s : ∀ i k, i < m → k < m → (runO kdN m S (fun _ => wholeN 0) r m).s i k = S i k
  a : (runO kdN m S (fun _ => wholeN 0) r m).a = r
  surp : surpJ kdN m x (fun _ => wholeN 0) z = z
  x : ∀ i, i < m → addE (x i) (mulE (divE ((runO kdN m S (fun _ => wholeN 0) r m).e i) (runO kdN m S (fun _ => wholeN 0) r m).a) (surpJ kdN m x (fun _ => wholeN 0) z)) = x i
theorem stillO {m : Nat} {s : Nat → Nat → Int} {x : Nat → Int} {r z : Int} (hm : m ≤ 3) (hs : ∀ i k, i < m → k < m → -5 ≤ s i k ∧ s i k ≤ 5) (hx : ∀ i, i < m → -5 ≤ x i ∧ x i ≤ 5) (h1 : 1 ≤ r) (h5 : r ≤ 5) (z1 : -5 ≤ z) (z5 : z ≤ 5)
    {S : Nat → Nat → En} {X : Nat → En} (hS : ∀ i k, i < m → k < m → S i k = itN (s i k)) (hX : ∀ i, i < m → X i = itN (x i)) : StillO m S X (itN r) (itN z) := by
  have hz0 : wholeN 0 = itN 0 := wholeN_it (by omega)
  obtain ⟨q1, q2, q3⟩ := still_r h1 h5
  have m00 : mulE (itN 0) (itN 0) = itN 0 := by have := mulN_it (a := 0) (b := 0) (wn_of (by omega)) (wn_of (by omega)) (wn_of (by omega)); simpa using this
  have ar0 : addE (itN r) (itN 0) = itN r := by have := addN_it (a := r) (b := 0) (wn_of (by omega)) (wn_of (by omega)) (wn_of (by omega)); simpa using this
  have a00 : addE (itN 0) (itN 0) = itN 0 := by have := addN_it (a := 0) (b := 0) (wn_of (by omega)) (wn_of (by omega)) (wn_of (by omega)); simpa using this
  have hw : ∀ j, j < m → wO kdN m S (fun _ => wholeN 0) j = itN 0 := by
    intro j hj
    show dotN (rowM m (fun i k => S k i) j) (linJ m fun _ => wholeN 0) = itN 0
    have e1 : rowM m (fun i k => S k i) j = (linJ m fun k => s k j).map itN := by
      unfold rowM linJ
      rw [List.map_map]
      exact List.map_congr_left fun k hk => hS k j (by simpa using hk) hj
    have e2 : (linJ m fun _ => wholeN 0) = (linJ m fun _ => (0 : Int)).map itN := by
      unfold linJ
      rw [List.map_map]
      exact List.map_congr_left fun k hk => hz0
    rw [e1, e2]
    exact dot_nought (fun i hi => hs i j hi hj) (by omega)
  have run : ∀ t, t ≤ m → (∀ i k, i < m → k < m → (runO kdN m S (fun _ => wholeN 0) (itN r) t).s i k = S i k) ∧ (∀ i, (runO kdN m S (fun _ => wholeN 0) (itN r) t).e i = itN 0) ∧ (runO kdN m S (fun _ => wholeN 0) (itN r) t).a = itN r := by
    intro t
    induction t with
    | zero => exact fun _ => ⟨fun _ _ _ _ => rfl, fun _ => hz0, rfl⟩
    | succ t ih =>
      intro ht
      obtain ⟨i1, i2, i3⟩ := ih (by omega)
      have hj : m - 1 - t < m := by omega
      have hb : bO kdN (runO kdN m S (fun _ => wholeN 0) (itN r) t).a (itN 0) = itN r := by
        rw [i3]
        show addE (itN r) (mulE (itN 0) (itN 0)) = itN r
        rw [m00, ar0]
      refine ⟨fun i k hi hk => ?_, fun i => ?_, ?_⟩
      · show partS kdN (m - 1 - t) m (wO kdN m S (fun _ => wholeN 0) (m - 1 - t)) (runO kdN m S (fun _ => wholeN 0) (itN r) t) i k = S i k
        unfold partS
        split
        · rename_i h
          rw [hw _ hj]
          unfold sO dO cO
          rw [hb, i3, i2, i1 i _ hi hj, ← h.1]
          show subE (mulE (S i k) (rootE (divE (itN r) (itN r)))) (mulE (itN 0) (divE (itN 0) (rootE (mulE (itN r) (itN r))))) = S i k
          rw [q1, q2, m00, hS i k hi hk]
          have hb5 := hs i k hi hk
          have e1 : mulE (itN (s i k)) (itN 1) = itN (s i k) := by have := mulN_it (a := s i k) (b := 1) (wn_of (by omega)) (wn_of (by omega)) (wn_of (by omega)); simpa using this
          rw [e1]
          have := subN_it (a := s i k) (b := 0) (wn_of (by omega)) (wn_of (by omega)) (wn_of (by omega))
          simpa using this
        · exact i1 i k hi hk
      · show partE kdN (m - 1 - t) m (wO kdN m S (fun _ => wholeN 0) (m - 1 - t)) (runO kdN m S (fun _ => wholeN 0) (itN r) t) i = itN 0
        unfold partE
        split
        · rename_i h
          rw [hw _ hj, i2, i1 i _ h.2 hj, hS i _ h.2 hj]
          have hb5 := hs i _ h.2 hj
          show addE (itN 0) (mulE (itN (s i (m - 1 - t))) (itN 0)) = itN 0
          have e1 : mulE (itN (s i (m - 1 - t))) (itN 0) = itN 0 := by have := mulN_it (a := s i (m - 1 - t)) (b := 0) (wn_of (by omega)) (wn_of (by omega)) (wn_of (by omega)); simpa using this
          rw [e1, a00]
        · exact i2 i
      · show bO kdN (runO kdN m S (fun _ => wholeN 0) (itN r) t).a (wO kdN m S (fun _ => wholeN 0) (m - 1 - t)) = itN r
        rw [hw _ hj, hb]
  obtain ⟨r1, r2, r3⟩ := run m (Nat.le_refl _)
  have hsp : surpJ kdN m X (fun _ => wholeN 0) (itN z) = itN z := by
    show subE (itN z) (dotN (linJ m fun _ => wholeN 0) (linJ m X)) = itN z
    have e1 : linJ m X = (linJ m x).map itN := by
      unfold linJ
      rw [List.map_map]
      exact List.map_congr_left fun k hk => hX k (by simpa using hk)
    have e2 : (linJ m fun _ => wholeN 0) = (linJ m fun _ => (0 : Int)).map itN := by
      unfold linJ
      rw [List.map_map]
      exact List.map_congr_left fun k hk => hz0
    rw [e1, e2, dot_nought' hx (by omega)]
    have := subN_it (a := z) (b := 0) (wn_of (by omega)) (wn_of (by omega)) (wn_of (by omega))
    simpa using this
  refine ⟨r1, r3, hsp, fun i hi => ?_⟩
  rw [hsp, r3, r2, q3, hX i hi]
  have hb5 := hx i hi
  have e1 : mulE (itN 0) (itN z) = itN 0 := by have := mulN_it (a := 0) (b := z) (wn_of (by omega)) (wn_of (by omega)) (wn_of (by omega)); simpa using this
  rw [e1]
  have := addN_it (a := x i) (b := 0) (wn_of (by omega)) (wn_of (by omega)) (wn_of (by omega))
  simpa using this
end Go.Proofs.YtljmggemdkfbiaaGreat

/- Two enclosed numbers that are the same, compared; Whole of enclosed numbers. -/
namespace Go.Proofs.YtljmggemdkfbiaaGreat
open Go.RowKit
set_option linter.unusedSimpArgs false
set_option linter.unusedVariables false

theorem Tryz.nnFields : Tryz.prog.underlying 52 = some (.struct (Tryz.prog.fieldsOf 52)) := by kernel_rfl
theorem Tryz.nnHeld : Tryz.prog.stoodInHeld 52 = false := by kernel_rfl
theorem Tryz.nnList : (Tryz.prog.fieldsOf 52).toList.map (fun f => (f.name, f.type, f.offset)) = [("V", 3, 0), ("Low", 3, 1), ("High", 3, 2), ("Bad", 4, 3)] := by kernel_rfl
theorem neq_nn (a : En) (w : World) : (binOp .neq 52 (enV a) (enV a)).run Tryz.prog w = .ok (.bool false) w := by
  rw [run_neq_struct, run_equalIn_agg _ _ _ _ _ Tryz.nnFields Tryz.nnHeld]
  rw [eqFields_map 9999 #[.int .i64 a.v, .int .i64 a.l, .int .i64 a.h, .bool a.bad] #[.int .i64 a.v, .int .i64 a.l, .int .i64 a.h, .bool a.bad] _ [{ name := "V", type := 3, offset := 0, embedded := false, tag := "", pkgPath := "", byteOffset := 0 }, { name := "Low", type := 3, offset := 1, embedded := false, tag := "", pkgPath := "", byteOffset := 0 }, { name := "High", type := 3, offset := 2, embedded := false, tag := "", pkgPath := "", byteOffset := 0 }, { name := "Bad", type := 4, offset := 3, embedded := false, tag := "", pkgPath := "", byteOffset := 0 }] Tryz.nnList]
  simp [Op.eqFields, part, go_sem]
theorem whole8N_call (R C : Nat) (p : Option Addr) (n cap : Nat) (ns : List Int) (w : World) (hr : Rq 1 cI w (.slice p n cap) ns) (hd : Dim R C) (hn : n = R * C) (hl : ns.length = n) :
    Calls Tryz.prog 33 #[.int .i64 R, .int .i64 C, .slice p n cap] w fun e w' => ∃ p' cap', e = .returned (.tuple #[mV R C p' n cap', .bool true]) ∧ Mx 4 cellsN w' R C p' n cap' (fun i k => wholeN (ofL C ns i k)) ∧ Bl w w' := by
  refine (mWholeN R C p n cap ns w hr (fitB_dim hd hn) hl).mono ?_
  rintro e w' ⟨p', cap', rfl, hR, hb⟩
  refine ⟨p', cap', rfl, ⟨hd, hn, ?_⟩, hb⟩
  have e := ofL_mk (R := R) (M := C) (ns := ns) (by rw [hl, hn])
  rw [e, mk_map] at hR
  exact hR.q
end Go.Proofs.YtljmggemdkfbiaaGreat

/- Rows of enclosed numbers, number by number; '==' of two that are the same (for RootStill). -/
namespace Go.Proofs.YtljmggemdkfbiaaGreat
open Go.RowKit
set_option linter.unusedSimpArgs false
set_option linter.unusedVariables false

theorem eql_nn (a : En) (w : World) : (binOp .eql 52 (enV a) (enV a)).run Tryz.prog w = .ok (.bool true) w := by
  rw [run_eql_struct, run_equalIn_agg _ _ _ _ _ Tryz.nnFields Tryz.nnHeld]
  rw [eqFields_map 9999 #[.int .i64 a.v, .int .i64 a.l, .int .i64 a.h, .bool a.bad] #[.int .i64 a.v, .int .i64 a.l, .int .i64 a.h, .bool a.bad] _ [{ name := "V", type := 3, offset := 0, embedded := false, tag := "", pkgPath := "", byteOffset := 0 }, { name := "Low", type := 3, offset := 1, embedded := false, tag := "", pkgPath := "", byteOffset := 0 }, { name := "High", type := 3, offset := 2, embedded := false, tag := "", pkgPath := "", byteOffset := 0 }, { name := "Bad", type := 4, offset := 3, embedded := false, tag := "", pkgPath := "", byteOffset := 0 }] Tryz.nnList]
  simp [Op.eqFields, part, go_sem]
theorem rq_cellsL {w : World} {p : Option Addr} {n cap : Nat} {L : List En} (h : Rq 4 cellsN w (.slice p n cap) L) (h0 : 0 < n) : ∃ g o, p = some ⟨g, o, none⟩ ∧ L.length = n ∧ ∀ u, Bl w u → ∀ (j : Nat) (x : En), L[j]? = some x →
    u.cell? ⟨g, o + j * 4, none⟩ = some (.int .i64 x.v) ∧ u.cell? ⟨g, o + j * 4 + 1, none⟩ = some (.int .i64 x.l) ∧ u.cell? ⟨g, o + j * 4 + 2, none⟩ = some (.int .i64 x.h) ∧ u.cell? ⟨g, o + j * 4 + 3, none⟩ = some (.bool x.bad) := by
  rcases h with ⟨p', cap', e, hx, _⟩ | ⟨b, o, cap', e, hc, hb, hx⟩
  · simp only [Value.slice.injEq] at e
    omega
  · simp only [Value.slice.injEq] at e
    obtain ⟨rfl, rfl, rfl⟩ := e
    refine ⟨b, o, rfl, rfl, fun u hu j x hj => ⟨?_, ?_, ?_, ?_⟩⟩
    · have := hx j x hj 0 _ rfl
      exact (bl_cell hu _ _ hb).trans (by simpa using this)
    · exact (bl_cell hu _ _ hb).trans (hx j x hj 1 _ rfl)
    · exact (bl_cell hu _ _ hb).trans (hx j x hj 2 _ rfl)
    · exact (bl_cell hu _ _ hb).trans (hx j x hj 3 _ rfl)
theorem getD_sml {A : Int} {L : List Int} (h : Sml A L) {i : Nat} (hi : i < L.length) : -A ≤ L.getD i 0 ∧ L.getD i 0 ≤ A := by
  rw [List.getD_eq_getElem?_getD, List.getElem?_eq_getElem hi]
  exact h _ (List.getElem_mem hi)
/-- RootStill's mathematics, of a case. -/
theorem still10 {m N : Nat} {X Ro : List Int} {r z : Int} (m3 : m ≤ 3) (hN : N = m * m) (hx : X.length = m) (hr : Ro.length = N) (sx : Sml 5 X) (sr : Sml 5 Ro) (r1 : 1 ≤ r) (r5 : r ≤ 5) (z1 : -5 ≤ z) (z5 : z ≤ 5) :
    StillO m (clrN fun i k => wholeN (ofL m Ro i k)) (fun i => wholeN (X.getD i 0)) (itN r) (itN z) := by
  have hs := clrI_sm (A := 5) (n := m) (f := ofL m Ro) (by omega) (ofL_sml (by rw [hr, hN]) sr)
  refine stillO m3 (s := clrI (ofL m Ro)) (x := fun i => X.getD i 0) hs (fun i hi => getD_sml sx (by omega)) r1 r5 z1 z5 (fun i k hi hk => ?_) (fun i hi => ?_)
  · have h5 := ofL_sml (show Ro.length = m * m by rw [hr, hN]) sr i k hi hk
    unfold clrN clrI
    split
    · exact wholeN_it (by omega)
    · exact wholeN_it (by omega)
  · have := getD_sml sx (show i < X.length by omega)
    exact wholeN_it (by omega)
end Go.Proofs.YtljmggemdkfbiaaGreat

/- Few of layer 9's laws. Written by genJf.py. -/
namespace Go.Proofs.YtljmggemdkfbiaaGreat
open Go.RowKit
set_option linter.unusedSimpArgs false
set_option linter.unusedVariables false

theorem rq_cellJ {w : World} {p : Option Addr} {n cap : Nat} {xs : List Int} (h : Rq 1 cI w (.slice p n cap) xs) : ∀ k x, xs[k]? = some x → ∃ b o, p = some ⟨b, o, none⟩ ∧ ∀ u, Bl w u → u.cell? ⟨b, o + k, none⟩ = some (.int .i64 x) := by
  intro k x hx
  rcases h with ⟨_, _, _, e, _⟩ | ⟨b, o, c, e, _, hlt, hc⟩
  · rw [e] at hx; simp at hx
  · simp only [Value.slice.injEq] at e
    exact ⟨b, o, e.1, fun u hu => (bl_cell hu _ _ hlt).trans (by have := hc k x hx 0 (.int .i64 x) rfl; simpa using this)⟩
theorem Tryz.idx5_0 (p0 p1 p2 p3 p4 : Option Addr) (l0 c0 l1 c1 l2 c2 l3 c3 l4 c4 : Nat) (w : World) : (Instr.index 82 (.agg #[.slice p0 l0 c0, .slice p1 l1 c1, .slice p2 l2 c2, .slice p3 l3 c3, .slice p4 l4 c4]) (.int .i64 0)).run Tryz.prog w = .ok (.slice p0 l0 c0) w := by kernel_rfl
theorem Tryz.idx5_1 (p0 p1 p2 p3 p4 : Option Addr) (l0 c0 l1 c1 l2 c2 l3 c3 l4 c4 : Nat) (w : World) : (Instr.index 82 (.agg #[.slice p0 l0 c0, .slice p1 l1 c1, .slice p2 l2 c2, .slice p3 l3 c3, .slice p4 l4 c4]) (.int .i64 1)).run Tryz.prog w = .ok (.slice p1 l1 c1) w := by kernel_rfl
theorem Tryz.idx5_2 (p0 p1 p2 p3 p4 : Option Addr) (l0 c0 l1 c1 l2 c2 l3 c3 l4 c4 : Nat) (w : World) : (Instr.index 82 (.agg #[.slice p0 l0 c0, .slice p1 l1 c1, .slice p2 l2 c2, .slice p3 l3 c3, .slice p4 l4 c4]) (.int .i64 2)).run Tryz.prog w = .ok (.slice p2 l2 c2) w := by kernel_rfl
theorem Tryz.idx5_3 (p0 p1 p2 p3 p4 : Option Addr) (l0 c0 l1 c1 l2 c2 l3 c3 l4 c4 : Nat) (w : World) : (Instr.index 82 (.agg #[.slice p0 l0 c0, .slice p1 l1 c1, .slice p2 l2 c2, .slice p3 l3 c3, .slice p4 l4 c4]) (.int .i64 3)).run Tryz.prog w = .ok (.slice p3 l3 c3) w := by kernel_rfl
theorem Tryz.idx5_4 (p0 p1 p2 p3 p4 : Option Addr) (l0 c0 l1 c1 l2 c2 l3 c3 l4 c4 : Nat) (w : World) : (Instr.index 82 (.agg #[.slice p0 l0 c0, .slice p1 l1 c1, .slice p2 l2 c2, .slice p3 l3 c3, .slice p4 l4 c4]) (.int .i64 4)).run Tryz.prog w = .ok (.slice p4 l4 c4) w := by kernel_rfl
/-- A case that may be gone through. -/
structure FewJ (m : Nat) (X Ro Fm Gm H : List Int) (r z : Int) : Prop where
  m1 : 1 ≤ m
  m3 : m ≤ 3
  x : X.length = m
  h : H.length = m
  ro : Ro.length = m * m
  f : Fm.length = m * m
  g : Gm.length = m * m
  r1 : 1 ≤ r
  r5 : r ≤ 5
  z1 : -5 ≤ z
  z5 : z ≤ 5
  sx : Sml 5 X
  sh : Sml 5 H
  sro : Sml 5 Ro
  sf : Sml 5 Fm
  sg : Sml 5 Gm
theorem take_all9 {L : List Int} {n : Nat} (h : Sml 5 (L.take 10)) (hl : L.length = n) (hn : n ≤ 9) : Sml 5 L := by
  rw [List.take_of_length_le (by omega)] at h
  exact h
def FewR (n r z : Int) (X Ro Fm Gm H : List Int) (w : World) (e : Ending) (w' : World) : Prop := ∃ b, e = .returned (.bool b) ∧ (b = true → ∃ m : Nat, n = m ∧ FewJ m X Ro Fm Gm H r z) ∧ Bl w w'
theorem fewR {n r z : Int} {X Ro Fm Gm H : List Int} {w w' : World} (b : Bool) (h : b = true → ∃ m : Nat, n = m ∧ FewJ m X Ro Fm Gm H r z) (k : Bl w w') : FewR n r z X Ro Fm Gm H w (.returned (.bool b)) w' := ⟨b, rfl, h, k⟩
set_option maxRecDepth 100000 in
set_option maxHeartbeats 8000000 in
theorem few9_any (n r z : Int) (px pr pf pg ph : Option Addr) (lx cx lr cr lf cf lg cg lh ch : Nat) (X Ro Fm Gm H : List Int) (w : World) (hX : Rq 1 cI w (.slice px lx cx) X) (hR : Rq 1 cI w (.slice pr lr cr) Ro) (hF : Rq 1 cI w (.slice pf lf cf) Fm) (hG : Rq 1 cI w (.slice pg lg cg) Gm) (hH : Rq 1 cI w (.slice ph lh ch) H)
    (eX : X.length = lx) (eR : Ro.length = lr) (eF : Fm.length = lf) (eG : Gm.length = lg) (eH : H.length = lh) :
    Calls Tryz.prog 9 #[.agg #[.int .i64 n, .slice px lx cx, .slice pr lr cr, .slice pf lf cf, .slice pg lg cg, .slice ph lh ch, .int .i64 r, .int .i64 z]] w (FewR n r z X Ro Fm Gm H w) := by
  obtain ⟨W, hW⟩ : ∃ W, W = w.alloc (.cells #[.int .i64 n, .slice px lx cx, .slice pr lr cr, .slice pf lf cf, .slice pg lg cg, .slice ph lh ch, .int .i64 r, .int .i64 z] 24) := ⟨_, rfl⟩
  have b0 : Bl w W := by rw [hW]; exact (Bl.refl _).alloc _
  have BW := hideP b0
  have B0 := hideP b0
  have HR0 := hideP (rq_cellJ hX)
  have HR1 := hideP (rq_cellJ hH)
  have HR2 := hideP (rq_cellJ hR)
  have HR3 := hideP (rq_cellJ hF)
  have HR4 := hideP (rq_cellJ hG)
  have HL0 := hideP eX
  have HL1 := hideP eH
  have HL2 := hideP eR
  have HL3 := hideP eF
  have HL4 := hideP eG
  have d0 : W.cell? ⟨w.heap.size, 0, none⟩ = some (.int .i64 n) := by rw [hW]; simp [go_sem]
  have d1 : W.cell? ⟨w.heap.size, 1, none⟩ = some (.slice px lx cx) := by rw [hW]; simp [go_sem]
  have d2 : W.cell? ⟨w.heap.size, 2, none⟩ = some (.slice pr lr cr) := by rw [hW]; simp [go_sem]
  have d3 : W.cell? ⟨w.heap.size, 3, none⟩ = some (.slice pf lf cf) := by rw [hW]; simp [go_sem]
  have d4 : W.cell? ⟨w.heap.size, 4, none⟩ = some (.slice pg lg cg) := by rw [hW]; simp [go_sem]
  have d5 : W.cell? ⟨w.heap.size, 5, none⟩ = some (.slice ph lh ch) := by rw [hW]; simp [go_sem]
  have d6 : W.cell? ⟨w.heap.size, 6, none⟩ = some (.int .i64 r) := by rw [hW]; simp [go_sem]
  have d7 : W.cell? ⟨w.heap.size, 7, none⟩ = some (.int .i64 z) := by rw [hW]; simp [go_sem]
  have HD0 := hideP d0
  have HD1 := hideP d1
  have HD2 := hideP d2
  have HD3 := hideP d3
  have HD4 := hideP d4
  have HD5 := hideP d5
  have HW := hideP hW
  clear hX hR hF hG hH eX eR eF eG eH b0
  go_enter Tryz.func9, Tryz.ntmps9
  clear hW d0 d1 d2 d3 d4 d5 d6 d7
  by_cases g1 : n < 1
  · go_wp2
    go_ret
    exact fewR false nofun ((Bl.refl _).alloc _)
  by_cases g2 : 3 < n
  · go_wp2
    go_ret
    exact fewR false nofun ((Bl.refl _).alloc _)
  obtain ⟨m, rfl⟩ := Int.eq_ofNat_of_zero_le (show 0 ≤ n by omega)
  by_cases g3 : lx = m
  · by_cases g4 : lh = m
    · by_cases g5 : r < 1
      · go_wp2
        go_ret
        exact fewR false nofun ((Bl.refl _).alloc _)
      by_cases g6 : 5 < r
      · go_wp2
        go_ret
        exact fewR false nofun ((Bl.refl _).alloc _)
      by_cases g7 : z < -5
      · go_wp2
        go_ret
        exact fewR false nofun ((Bl.refl _).alloc _)
      by_cases g8 : 5 < z
      · go_wp2
        go_ret
        exact fewR false nofun ((Bl.refl _).alloc _)
      have e3 : ((lx : Int) != (m : Int)) = false := by simp; omega
      have e4 : ((lh : Int) != (m : Int)) = false := by simp; omega
      have G3 := hideP g3
      have G4 := hideP g4
      clear g3 g4
      go_wp2_with fail
      rw [← HW.out]
      have d0 := HD0.out
      have d1 := HD1.out
      have d2 := HD2.out
      have d3 := HD3.out
      have d4 := HD4.out
      have d5 := HD5.out
      go_loopw [61] (fun v wr => ∃ i : Nat, v = .int .i64 i ∧ i ≤ 5 ∧ ((0 < i → Sml 5 (X.take 10)) ∧ (1 < i → Sml 5 (H.take 10)) ∧ (2 < i → Sml 5 (Ro.take 10)) ∧ (3 < i → Sml 5 (Fm.take 10)) ∧ (4 < i → Sml 5 (Gm.take 10))) ∧ wr = W) (fun v _ => 5 - (intOf v).toNat)
      case atStart => exact ⟨0, rfl, by omega, ⟨fun h => absurd h (by omega), fun h => absurd h (by omega), fun h => absurd h (by omega), fun h => absurd h (by omega), fun h => absurd h (by omega)⟩, rfl⟩
      case round =>
        obtain ⟨i, rfl, hi, ⟨i0, i1, i2, i3, i4⟩, rfl⟩ := hrel
        have HI0 := hideP i0
        have HI1 := hideP i1
        have HI2 := hideP i2
        have HI3 := hideP i3
        have HI4 := hideP i4
        clear i0 i1 i2 i3 i4
        obtain ⟨wq, hwq⟩ : ∃ wq : World, wq = wr := ⟨_, rfl⟩
        subst hwq
        by_cases hlt : i < 5
        · rcases (by omega : i = 0 ∨ i = 1 ∨ i = 2 ∨ i = 3 ∨ i = 4) with rfl | rfl | rfl | rfl | rfl
          · have IX := Tryz.idx5_0 px ph pr pf pg lx cx lh ch lr cr lf cf lg cg wq
            go_wp2_with fail
            go_loopw [5] (fun v wr => ∃ k : Nat, v = .int .i64 k ∧ k ≤ X.length ∧ k ≤ 10 ∧ Sml 5 (X.take k) ∧ wr = wq) (fun v _ => 10 - (intOf v).toNat)
            case atStart => exact ⟨0, rfl, Nat.zero_le _, by omega, fun x hx => by simp at hx, rfl⟩
            case round =>
              obtain ⟨k, rfl, hk, hk2, hS, rfl⟩ := hrel
              have HS0 := hideP hS
              have hlen := HL0.out
              clear hS
              by_cases hlt : k < X.length ∧ k ≤ 9
              · obtain ⟨hlt, hlt2⟩ := hlt
                obtain ⟨x, hx⟩ : ∃ x, X[k]? = some x := ⟨_, List.getElem?_eq_getElem hlt⟩
                obtain ⟨b, o, hp, hcell⟩ := HR0.out k x hx
                have cx9 := hcell wr BW.out
                have HT := hideP (show X.take (k + 1) = X.take k ++ [x] by rw [List.take_add_one, hx]; rfl)
                subst hp
                clear hcell hx
                by_cases g1 : x < -5
                · go_wp2
                  go_ret
                  exact fewR false nofun B0.out
                · by_cases g2 : 5 < x
                  · go_wp2
                    go_ret
                    exact fewR false nofun B0.out
                  · go_wp2
                    go_roundw
                    case rel =>
                      refine ⟨k + 1, by simp, by omega, by omega, ?_⟩
                      rw [HT.out]
                      intro y hy
                      rcases List.mem_append.1 hy with hy | hy
                      · exact HS0.out y hy
                      · simp at hy; omega
                    case measure => simp [intOf]; omega
              · have HS := hideP (show Sml 5 (X.take 10) from by
                  by_cases h9 : k ≤ 9
                  · have e : X.take 10 = X.take k := by rw [List.take_of_length_le (by omega), List.take_of_length_le (by omega)]
                    rw [e]; exact HS0.out
                  · obtain rfl : k = 10 := by omega
                    exact HS0.out)
                by_cases h9 : k < X.length
                · have h10 : ¬ k ≤ 9 := fun h => hlt ⟨h9, h⟩
                  go_wp2_with fail
                  go_roundw
                  case rel => exact ⟨1, by simp, by omega, ⟨fun h => HS.out, fun h => absurd h (by omega), fun h => absurd h (by omega), fun h => absurd h (by omega), fun h => absurd h (by omega)⟩, trivial⟩
                  case measure => simp [intOf]
                · go_wp2_with fail
                  go_roundw
                  case rel => exact ⟨1, by simp, by omega, ⟨fun h => HS.out, fun h => absurd h (by omega), fun h => absurd h (by omega), fun h => absurd h (by omega), fun h => absurd h (by omega)⟩, trivial⟩
                  case measure => simp [intOf]
          · have IX := Tryz.idx5_1 px ph pr pf pg lx cx lh ch lr cr lf cf lg cg wq
            go_wp2_with fail
            go_loopw [5] (fun v wr => ∃ k : Nat, v = .int .i64 k ∧ k ≤ H.length ∧ k ≤ 10 ∧ Sml 5 (H.take k) ∧ wr = wq) (fun v _ => 10 - (intOf v).toNat)
            case atStart => exact ⟨0, rfl, Nat.zero_le _, by omega, fun x hx => by simp at hx, rfl⟩
            case round =>
              obtain ⟨k, rfl, hk, hk2, hS, rfl⟩ := hrel
              have HS0 := hideP hS
              have hlen := HL1.out
              clear hS
              by_cases hlt : k < H.length ∧ k ≤ 9
              · obtain ⟨hlt, hlt2⟩ := hlt
                obtain ⟨x, hx⟩ : ∃ x, H[k]? = some x := ⟨_, List.getElem?_eq_getElem hlt⟩
                obtain ⟨b, o, hp, hcell⟩ := HR1.out k x hx
                have cx9 := hcell wr BW.out
                have HT := hideP (show H.take (k + 1) = H.take k ++ [x] by rw [List.take_add_one, hx]; rfl)
                subst hp
                clear hcell hx
                by_cases g1 : x < -5
                · go_wp2
                  go_ret
                  exact fewR false nofun B0.out
                · by_cases g2 : 5 < x
                  · go_wp2
                    go_ret
                    exact fewR false nofun B0.out
                  · go_wp2
                    go_roundw
                    case rel =>
                      refine ⟨k + 1, by simp, by omega, by omega, ?_⟩
                      rw [HT.out]
                      intro y hy
                      rcases List.mem_append.1 hy with hy | hy
                      · exact HS0.out y hy
                      · simp at hy; omega
                    case measure => simp [intOf]; omega
              · have HS := hideP (show Sml 5 (H.take 10) from by
                  by_cases h9 : k ≤ 9
                  · have e : H.take 10 = H.take k := by rw [List.take_of_length_le (by omega), List.take_of_length_le (by omega)]
                    rw [e]; exact HS0.out
                  · obtain rfl : k = 10 := by omega
                    exact HS0.out)
                by_cases h9 : k < H.length
                · have h10 : ¬ k ≤ 9 := fun h => hlt ⟨h9, h⟩
                  go_wp2_with fail
                  go_roundw
                  case rel => exact ⟨2, by simp, by omega, ⟨fun h => (HI0.out (by omega)), fun h => HS.out, fun h => absurd h (by omega), fun h => absurd h (by omega), fun h => absurd h (by omega)⟩, trivial⟩
                  case measure => simp [intOf]
                · go_wp2_with fail
                  go_roundw
                  case rel => exact ⟨2, by simp, by omega, ⟨fun h => (HI0.out (by omega)), fun h => HS.out, fun h => absurd h (by omega), fun h => absurd h (by omega), fun h => absurd h (by omega)⟩, trivial⟩
                  case measure => simp [intOf]
          · have IX := Tryz.idx5_2 px ph pr pf pg lx cx lh ch lr cr lf cf lg cg wq
            go_wp2_with fail
            go_loopw [5] (fun v wr => ∃ k : Nat, v = .int .i64 k ∧ k ≤ Ro.length ∧ k ≤ 10 ∧ Sml 5 (Ro.take k) ∧ wr = wq) (fun v _ => 10 - (intOf v).toNat)
            case atStart => exact ⟨0, rfl, Nat.zero_le _, by omega, fun x hx => by simp at hx, rfl⟩
            case round =>
              obtain ⟨k, rfl, hk, hk2, hS, rfl⟩ := hrel
              have HS0 := hideP hS
              have hlen := HL2.out
              clear hS
              by_cases hlt : k < Ro.length ∧ k ≤ 9
              · obtain ⟨hlt, hlt2⟩ := hlt
                obtain ⟨x, hx⟩ : ∃ x, Ro[k]? = some x := ⟨_, List.getElem?_eq_getElem hlt⟩
                obtain ⟨b, o, hp, hcell⟩ := HR2.out k x hx
                have cx9 := hcell wr BW.out
                have HT := hideP (show Ro.take (k + 1) = Ro.take k ++ [x] by rw [List.take_add_one, hx]; rfl)
                subst hp
                clear hcell hx
                by_cases g1 : x < -5
                · go_wp2
                  go_ret
                  exact fewR false nofun B0.out
                · by_cases g2 : 5 < x
                  · go_wp2
                    go_ret
                    exact fewR false nofun B0.out
                  · go_wp2
                    go_roundw
                    case rel =>
                      refine ⟨k + 1, by simp, by omega, by omega, ?_⟩
                      rw [HT.out]
                      intro y hy
                      rcases List.mem_append.1 hy with hy | hy
                      · exact HS0.out y hy
                      · simp at hy; omega
                    case measure => simp [intOf]; omega
              · have HS := hideP (show Sml 5 (Ro.take 10) from by
                  by_cases h9 : k ≤ 9
                  · have e : Ro.take 10 = Ro.take k := by rw [List.take_of_length_le (by omega), List.take_of_length_le (by omega)]
                    rw [e]; exact HS0.out
                  · obtain rfl : k = 10 := by omega
                    exact HS0.out)
                by_cases h9 : k < Ro.length
                · have h10 : ¬ k ≤ 9 := fun h => hlt ⟨h9, h⟩
                  go_wp2_with fail
                  go_roundw
                  case rel => exact ⟨3, by simp, by omega, ⟨fun h => (HI0.out (by omega)), fun h => (HI1.out (by omega)), fun h => HS.out, fun h => absurd h (by omega), fun h => absurd h (by omega)⟩, trivial⟩
                  case measure => simp [intOf]
                · go_wp2_with fail
                  go_roundw
                  case rel => exact ⟨3, by simp, by omega, ⟨fun h => (HI0.out (by omega)), fun h => (HI1.out (by omega)), fun h => HS.out, fun h => absurd h (by omega), fun h => absurd h (by omega)⟩, trivial⟩
                  case measure => simp [intOf]
          · have IX := Tryz.idx5_3 px ph pr pf pg lx cx lh ch lr cr lf cf lg cg wq
            go_wp2_with fail
            go_loopw [5] (fun v wr => ∃ k : Nat, v = .int .i64 k ∧ k ≤ Fm.length ∧ k ≤ 10 ∧ Sml 5 (Fm.take k) ∧ wr = wq) (fun v _ => 10 - (intOf v).toNat)
            case atStart => exact ⟨0, rfl, Nat.zero_le _, by omega, fun x hx => by simp at hx, rfl⟩
            case round =>
              obtain ⟨k, rfl, hk, hk2, hS, rfl⟩ := hrel
              have HS0 := hideP hS
              have hlen := HL3.out
              clear hS
              by_cases hlt : k < Fm.length ∧ k ≤ 9
              · obtain ⟨hlt, hlt2⟩ := hlt
                obtain ⟨x, hx⟩ : ∃ x, Fm[k]? = some x := ⟨_, List.getElem?_eq_getElem hlt⟩
                obtain ⟨b, o, hp, hcell⟩ := HR3.out k x hx
                have cx9 := hcell wr BW.out
                have HT := hideP (show Fm.take (k + 1) = Fm.take k ++ [x] by rw [List.take_add_one, hx]; rfl)
                subst hp
                clear hcell hx
                by_cases g1 : x < -5
                · go_wp2
                  go_ret
                  exact fewR false nofun B0.out
                · by_cases g2 : 5 < x
                  · go_wp2
                    go_ret
                    exact fewR false nofun B0.out
                  · go_wp2
                    go_roundw
                    case rel =>
                      refine ⟨k + 1, by simp, by omega, by omega, ?_⟩
                      rw [HT.out]
                      intro y hy
                      rcases List.mem_append.1 hy with hy | hy
                      · exact HS0.out y hy
                      · simp at hy; omega
                    case measure => simp [intOf]; omega
              · have HS := hideP (show Sml 5 (Fm.take 10) from by
                  by_cases h9 : k ≤ 9
                  · have e : Fm.take 10 = Fm.take k := by rw [List.take_of_length_le (by omega), List.take_of_length_le (by omega)]
                    rw [e]; exact HS0.out
                  · obtain rfl : k = 10 := by omega
                    exact HS0.out)
                by_cases h9 : k < Fm.length
                · have h10 : ¬ k ≤ 9 := fun h => hlt ⟨h9, h⟩
                  go_wp2_with fail
                  go_roundw
                  case rel => exact ⟨4, by simp, by omega, ⟨fun h => (HI0.out (by omega)), fun h => (HI1.out (by omega)), fun h => (HI2.out (by omega)), fun h => HS.out, fun h => absurd h (by omega)⟩, trivial⟩
                  case measure => simp [intOf]
                · go_wp2_with fail
                  go_roundw
                  case rel => exact ⟨4, by simp, by omega, ⟨fun h => (HI0.out (by omega)), fun h => (HI1.out (by omega)), fun h => (HI2.out (by omega)), fun h => HS.out, fun h => absurd h (by omega)⟩, trivial⟩
                  case measure => simp [intOf]
          · have IX := Tryz.idx5_4 px ph pr pf pg lx cx lh ch lr cr lf cf lg cg wq
            go_wp2_with fail
            go_loopw [5] (fun v wr => ∃ k : Nat, v = .int .i64 k ∧ k ≤ Gm.length ∧ k ≤ 10 ∧ Sml 5 (Gm.take k) ∧ wr = wq) (fun v _ => 10 - (intOf v).toNat)
            case atStart => exact ⟨0, rfl, Nat.zero_le _, by omega, fun x hx => by simp at hx, rfl⟩
            case round =>
              obtain ⟨k, rfl, hk, hk2, hS, rfl⟩ := hrel
              have HS0 := hideP hS
              have hlen := HL4.out
              clear hS
              by_cases hlt : k < Gm.length ∧ k ≤ 9
              · obtain ⟨hlt, hlt2⟩ := hlt
                obtain ⟨x, hx⟩ : ∃ x, Gm[k]? = some x := ⟨_, List.getElem?_eq_getElem hlt⟩
                obtain ⟨b, o, hp, hcell⟩ := HR4.out k x hx
                have cx9 := hcell wr BW.out
                have HT := hideP (show Gm.take (k + 1) = Gm.take k ++ [x] by rw [List.take_add_one, hx]; rfl)
                subst hp
                clear hcell hx
                by_cases g1 : x < -5
                · go_wp2
                  go_ret
                  exact fewR false nofun B0.out
                · by_cases g2 : 5 < x
                  · go_wp2
                    go_ret
                    exact fewR false nofun B0.out
                  · go_wp2
                    go_roundw
                    case rel =>
                      refine ⟨k + 1, by simp, by omega, by omega, ?_⟩
                      rw [HT.out]
                      intro y hy
                      rcases List.mem_append.1 hy with hy | hy
                      · exact HS0.out y hy
                      · simp at hy; omega
                    case measure => simp [intOf]; omega
              · have HS := hideP (show Sml 5 (Gm.take 10) from by
                  by_cases h9 : k ≤ 9
                  · have e : Gm.take 10 = Gm.take k := by rw [List.take_of_length_le (by omega), List.take_of_length_le (by omega)]
                    rw [e]; exact HS0.out
                  · obtain rfl : k = 10 := by omega
                    exact HS0.out)
                by_cases h9 : k < Gm.length
                · have h10 : ¬ k ≤ 9 := fun h => hlt ⟨h9, h⟩
                  go_wp2_with fail
                  go_roundw
                  case rel => exact ⟨5, by simp, by omega, ⟨fun h => (HI0.out (by omega)), fun h => (HI1.out (by omega)), fun h => (HI2.out (by omega)), fun h => (HI3.out (by omega)), fun h => HS.out⟩, trivial⟩
                  case measure => simp [intOf]
                · go_wp2_with fail
                  go_roundw
                  case rel => exact ⟨5, by simp, by omega, ⟨fun h => (HI0.out (by omega)), fun h => (HI1.out (by omega)), fun h => (HI2.out (by omega)), fun h => (HI3.out (by omega)), fun h => HS.out⟩, trivial⟩
                  case measure => simp [intOf]
        · obtain rfl : i = 5 := by omega
          obtain ⟨mm, hmm⟩ : ∃ mm, mm = m * m := ⟨_, rfl⟩
          have hMM : (m : Int) * (m : Int) = (mm : Int) := by rw [hmm, Int.natCast_mul]
          have m3 : m ≤ 3 := by omega
          have mm9 : mm ≤ 9 := by rw [hmm]; exact Nat.mul_le_mul m3 m3
          have HMM := hideP hmm
          clear hmm
          by_cases k1 : lr = mm
          · by_cases k2 : lf = mm
            · by_cases k3 : lg = mm
              · have f1 : ((lr : Int) == (mm : Int)) = true := by simp; omega
                have f2 : ((lf : Int) == (mm : Int)) = true := by simp; omega
                have f3 : ((lg : Int) == (mm : Int)) = true := by simp; omega
                go_wp2
                go_ret
                refine fewR _ (fun _ => ⟨m, rfl, ⟨by omega, by omega, by rw [HL0.out, G3.out], by rw [HL1.out, G4.out], by rw [HL2.out, k1, HMM.out], by rw [HL3.out, k2, HMM.out], by rw [HL4.out, k3, HMM.out], by omega, by omega, by omega, by omega, ?_, ?_, ?_, ?_, ?_⟩⟩) B0.out
                · exact take_all9 (HI0.out (by omega)) HL0.out (by have := G3.out; omega)
                · exact take_all9 (HI1.out (by omega)) HL1.out (by have := G4.out; omega)
                · exact take_all9 (HI2.out (by omega)) HL2.out (by omega)
                · exact take_all9 (HI3.out (by omega)) HL3.out (by omega)
                · exact take_all9 (HI4.out (by omega)) HL4.out (by omega)
              · have f1 : ((lr : Int) == (mm : Int)) = true := by simp; omega
                have f2 : ((lf : Int) == (mm : Int)) = true := by simp; omega
                have f3 : ((lg : Int) == (mm : Int)) = false := by simp; omega
                go_wp2
                go_ret
                exact fewR false nofun B0.out
            · have f1 : ((lr : Int) == (mm : Int)) = true := by simp; omega
              have f2 : ((lf : Int) == (mm : Int)) = false := by simp; omega
              go_wp2
              go_ret
              exact fewR false nofun B0.out
          · have f1 : ((lr : Int) == (mm : Int)) = false := by simp; omega
            go_wp2
            go_ret
            exact fewR false nofun B0.out
    · have e3 : ((lx : Int) != (m : Int)) = false := by simp; omega
      have e4 : ((lh : Int) != (m : Int)) = true := by simp; omega
      go_wp2
      go_ret
      exact fewR false nofun ((Bl.refl _).alloc _)
  · have e3 : ((lx : Int) != (m : Int)) = true := by simp; omega
    go_wp2
    go_ret
    exact fewR false nofun ((Bl.refl _).alloc _)
end Go.Proofs.YtljmggemdkfbiaaGreat

/- The walk of RootStill. Our own tool writes it. -/
namespace Go.Proofs.YtljmggemdkfbiaaGreat
open Go.RowKit
set_option linter.unusedSimpArgs false
set_option linter.unusedVariables false

set_option maxRecDepth 100000 in
set_option maxHeartbeats 16000000 in
theorem walk_RootStill (n r z : Int) (vx vr vf vg vh : Value) (X Ro Fm Gm H : List Int) (w : World) (hX : Rq 1 cI w vx X) (hR : Rq 1 cI w vr Ro) (hF : Rq 1 cI w vf Fm) (hG : Rq 1 cI w vg Gm) (hH : Rq 1 cI w vh H) :
    Calls Tryz.prog 7 #[.agg #[.int .i64 n, vx, vr, vf, vg, vh, .int .i64 r, .int .i64 z]] w fun e w' => e = .returned (.bool true) ∧ Bl w w' := by
  have fm : Tryz.prog.follows .mixedOrders = true := by kernel_rfl
  have egW := enters_of Tryz.func35 (by kernel_rfl) rfl
  have egN := enters_of Tryz.func34 (by kernel_rfl) rfl
  have egU := enters_of Tryz.func36 (by kernel_rfl) rfl
  have egO := enters_of Tryz.func37 (by kernel_rfl) rfl
  have AW := hideP awake10_any
  obtain ⟨px, cx, rfl, _, _⟩ := hX.cut
  obtain ⟨pr, cr, rfl, _, _⟩ := hR.cut
  obtain ⟨pf, cf, rfl, _, _⟩ := hF.cut
  obtain ⟨pg, cg, rfl, _, _⟩ := hG.cut
  obtain ⟨ph, ch, rfl, _, _⟩ := hH.cut
  obtain ⟨lx, hlx⟩ : ∃ l, l = X.length := ⟨_, rfl⟩
  obtain ⟨lr, hlr⟩ : ∃ l, l = Ro.length := ⟨_, rfl⟩
  obtain ⟨lf, hlf⟩ : ∃ l, l = Fm.length := ⟨_, rfl⟩
  obtain ⟨lg, hlg⟩ : ∃ l, l = Gm.length := ⟨_, rfl⟩
  obtain ⟨lh, hlh⟩ : ∃ l, l = H.length := ⟨_, rfl⟩
  rw [← hlx] at hX
  rw [← hlr] at hR
  rw [← hlf] at hF
  rw [← hlg] at hG
  rw [← hlh] at hH
  rw [← hlx, ← hlr, ← hlf, ← hlg, ← hlh]
  obtain ⟨W, hW⟩ : ∃ W, W = w.alloc (.cells #[.int .i64 n, .slice px lx cx, .slice pr lr cr, .slice pf lf cf, .slice pg lg cg, .slice ph lh ch, .int .i64 r, .int .i64 z] 24) := ⟨_, rfl⟩
  have b0 : Bl w W := by rw [hW]; exact (Bl.refl _).alloc _
  have lt0 : w.heap.size < W.heap.size := by rw [hW]; simp
  have HC := hideP (show ∀ u, Bl W u → u.cell? ⟨w.heap.size, 0, none⟩ = some (.int .i64 n) ∧ u.cell? ⟨w.heap.size, 1, none⟩ = some (.slice px lx cx) ∧ u.cell? ⟨w.heap.size, 2, none⟩ = some (.slice pr lr cr) ∧ u.cell? ⟨w.heap.size, 3, none⟩ = some (.slice pf lf cf) ∧ u.cell? ⟨w.heap.size, 4, none⟩ = some (.slice pg lg cg) ∧ u.cell? ⟨w.heap.size, 5, none⟩ = some (.slice ph lh ch) ∧ u.cell? ⟨w.heap.size, 6, none⟩ = some (.int .i64 r) ∧ u.cell? ⟨w.heap.size, 7, none⟩ = some (.int .i64 z) from fun u hu => by
    refine ⟨?_, ?_, ?_, ?_, ?_, ?_, ?_, ?_⟩ <;> (rw [bl_cell hu _ _ lt0, hW]; simp [go_sem]))
  have FE := hideP (few9_any n r z px pr pf pg ph lx cx lr cr lf cf lg cg lh ch X Ro Fm Gm H W (hX.later b0) (hR.later b0) (hF.later b0) (hG.later b0) (hH.later b0) hlx.symm hlr.symm hlf.symm hlg.symm hlh.symm)
  have HW := hideP hW
  have HXR0 := hideP hX
  have HHR0 := hideP hH
  have HRR := hideP hR
  have HFR := hideP hF
  have HGR := hideP hG
  have hlx' := hideP hlx.symm
  have hlr' := hideP hlr.symm
  have hlf' := hideP hlf.symm
  have hlg' := hideP hlg.symm
  have hlh' := hideP hlh.symm
  clear hW hX hR hF hG hH hlx hlr hlf hlg hlh
  go_enter Tryz.func7, Tryz.ntmps7
  go_wp2_with fail
  rw [← HW.out]
  refine FE.out.mono ?_
  rintro e w1 ⟨b1, rfl, hb1, h1⟩
  clear FE
  cases b1 with
  | false =>
    go_wp2_with fail
    refine (AW.out _).mono ?_
    rintro e w99 ⟨rfl, h99⟩
    go_wp2
    go_ret
    exact ⟨rfl, (b0.trans h1).trans h99⟩
  | true =>
    obtain ⟨m, rfl, fw⟩ := hb1 rfl
    clear hb1
    obtain ⟨N, hN⟩ : ∃ N, N = m * m := ⟨_, rfl⟩
    obtain rfl : lx = m := by rw [← hlx'.out]; exact fw.x
    obtain ⟨m, rfl⟩ : ∃ m, m = lx := ⟨_, rfl⟩
    obtain rfl : lh = m := by rw [← hlh'.out]; exact fw.h
    obtain ⟨m, rfl⟩ : ∃ m, m = lh := ⟨_, rfl⟩
    obtain rfl : lr = N := by rw [← hlr'.out, hN]; exact fw.ro
    obtain ⟨N, rfl⟩ : ∃ N, N = lr := ⟨_, rfl⟩
    obtain rfl : lf = N := by rw [← hlf'.out, hN]; exact fw.f
    obtain ⟨N, rfl⟩ : ∃ N, N = lf := ⟨_, rfl⟩
    obtain rfl : lg = N := by rw [← hlg'.out, hN]; exact fw.g
    obtain ⟨N, rfl⟩ : ∃ N, N = lg := ⟨_, rfl⟩
    have m1 := fw.m1
    have m3 := fw.m3
    have hm4 : m ≤ 4 := by omega
    have hN9 : N ≤ 9 := by rw [hN]; exact Nat.mul_le_mul m3 m3
    have mN : m ≤ N := by rw [hN]; exact Nat.le_mul_of_pos_left m m1
    have HNN := hideP hN
    have HD := hideP (dim_le4 m1 hm4)
    have HFW := hideP fw
    have HXR := hideP (show Rq 1 cI w (.slice px m cx) (linJ m fun i => X.getD i 0) from by rw [← linJ_of (n := m) 0 X hlx'.out]; exact HXR0.out)
    have HHR := hideP (show Rq 1 cI w (.slice ph m ch) (linJ m fun i => H.getD i 0) from by rw [← linJ_of (n := m) 0 H hlh'.out]; exact HHR0.out)
    have b1w : Bl W w1 := h1
    clear hN fw HHR0
    obtain ⟨Rr, hRi⟩ : ∃ x : En, x = itN r := ⟨_, rfl⟩
    obtain ⟨Zz, hZi⟩ : ∃ x : En, x = itN z := ⟨_, rfl⟩
    obtain ⟨one, hone⟩ : ∃ x : En, x = ptE 0 (frB 0) := ⟨_, rfl⟩
    have HSO := hideP (still10 (N := N) m3 HNN.out hlx'.out hlr'.out HFW.out.sx HFW.out.sro HFW.out.r1 HFW.out.r5 HFW.out.z1 HFW.out.z5)
    have HRr := hideP (show ptE (foN r) (foB r) = Rr from by rw [hRi]; exact ofN_it (by have := HFW.out.r1; have := HFW.out.r5; unfold Wn; omega))
    have HZz := hideP (show ptE (foN z) (foB z) = Zz from by rw [hZi]; exact ofN_it (by have := HFW.out.z1; have := HFW.out.z5; unfold Wn; omega))
    have HRi := hideP hRi
    have HZi := hideP hZi
    have HON := hideP hone
    have n1 : ¬ ((m : Int) < 1) := by omega
    have n3 : ¬ ((m : Int) > 3) := by omega
    have n3' : ¬ (3 < (m : Int)) := by omega
    clear hRi hZi hone
    obtain ⟨c0, c1, c2, c3, c4, c5, c6, c7⟩ := HC.out w1 (b1w)
    have WH := hideP (whole8N_call m m pr N cr Ro w1 (HRR.out.later (b0.trans b1w)) HD.out HNN.out hlr'.out)
    go_wp2_with fail
    refine WH.out.mono ?_
    rintro e w2 ⟨p2, c2', rfl, hx, h2⟩
    clear c0 c1 c2 c3 c4 c5 c6 c7
    obtain ⟨W2, hW2⟩ : ∃ W2, W2 = w2.alloc (.cells #[.int .i64 m, .int .i64 m, .slice p2 N c2'] 48) := ⟨_, rfl⟩
    have b2 : Bl w2 W2 := by rw [hW2]; exact (Bl.refl _).alloc _
    have k2 : MBox W2 w2.heap.size m m p2 N c2' := by rw [hW2]; exact MBox.new w2 _ _ _ _ _ _
    have HX2 := hideP (Mx.later hx b2)
    have b2w : Bl W W2 := b1w.trans (h2.trans b2)
    have HW2 := hideP hW2
    clear hW2 hx WH
    go_wp2_with fail
    rw [← HW2.out]
    refine (pointE_any 0 W2).mono ?_
    rintro e w3 ⟨rfl, h3⟩
    rw [← HON.out]
    obtain ⟨W3, hW3⟩ : ∃ W3, W3 = w3.alloc (.cells #[.int .i64 one.v, .int .i64 one.l, .int .i64 one.h, .bool one.bad] 52) := ⟨_, rfl⟩
    have b3 : Bl w3 W3 := by rw [hW3]; exact (Bl.refl _).alloc _
    have k3 : Box W3 w3.heap.size one := by rw [hW3]; exact Box.new w3 one _
    have b23 : Bl W2 W3 := h3.trans b3
    have b3w : Bl W W3 := b2w.trans b23
    have HW3 := hideP hW3
    clear hW3
    go_wp2_with fail
    rw [← HW3.out]
    refine (wpIn_wide (n := 8)).1 (region_q fm [some 39, some 40, some 41, some 42, some 43, some 38, some 44, some 45, some 6, none, some 7] (fun j => j == 7 || j == 10) 9 (by kernel_rfl) (by rfl)
          (fun j v u => match j with | 0 => v = .pointer (some ⟨w.heap.size, 1, none⟩) | 1 => v = .slice px m cx | 2 => ∃ q c, v = .slice q m c ∧ Rw 4 cellsN u (.slice q m c) (linJ m (fun i => wholeN (X.getD i 0))) | 3 => v = mV m m p2 N c2' | 4 => ∃ q c p' c', v = .tuple #[sJ q (m) c (m : Nat) (m : Nat) p' (N) c', .bool true] ∧ Rw 4 cellsN u (.slice q (m) c) (linJ (m) (fun i => wholeN (X.getD i 0))) ∧ Mx 4 cellsN u (m) (m) p' (N) c' (clrN (fun i k => wholeN (ofL m Ro i k))) | 5 => ∃ q c p' c', v = .tuple #[sJ q (m) c (m : Nat) (m : Nat) p' (N) c', .bool true] ∧ Rw 4 cellsN u (.slice q (m) c) (linJ (m) (fun i => wholeN (X.getD i 0))) ∧ Mx 4 cellsN u (m) (m) p' (N) c' (clrN (fun i k => wholeN (ofL m Ro i k))) | 6 => ∃ q c p' c', v = sJ q (m) c (m : Nat) (m : Nat) p' (N) c' ∧ Rw 4 cellsN u (.slice q (m) c) (linJ (m) (fun i => wholeN (X.getD i 0))) ∧ Mx 4 cellsN u (m) (m) p' (N) c' (clrN (fun i k => wholeN (ofL m Ro i k))) | 7 => v = .bool true | 8 => ∃ b, v = .pointer (some ⟨b, 0, none⟩) ∧ W3.heap.size ≤ b ∧ SBox u b none 0 0 0 0 none 0 0 ∧ NoB u b | 10 => v = .bool true | _ => False)
          (by
            intro j v u u' hb h
            split at h <;> first | exact h | (obtain ⟨b, e, h1, h2, h3⟩ := h; exact ⟨b, e, h1, h2.later hb, h3.later hb h2.lt⟩) | (obtain ⟨q, c, p', c', e, h1, h2⟩ := h; exact ⟨q, c, p', c', e, h1.later hb, Mx.later h2 hb⟩) | (obtain ⟨q, c, e, h1⟩ := h; exact ⟨q, c, e, h1.later hb⟩) | (obtain ⟨g, e, h1⟩ := h; exact ⟨g, e, h1.later hb⟩)) (fun vs u0 u => ∃ b q c p' c', vs 8 = .pointer (some ⟨b, 0, none⟩) ∧ W3.heap.size ≤ b ∧ SBox u b q (m) c (m : Nat) (m : Nat) p' (N) c' ∧ Rw 4 cellsN u (.slice q (m) c) (linJ (m) (fun i => wholeN (X.getD i 0))) ∧ Mx 4 cellsN u (m) (m) p' (N) c' (clrN (fun i k => wholeN (ofL m Ro i k))) ∧ Bl W3 u) ?step ?still ?store ?fin)
    case step =>
      intro j o t act u ho hdt hpu hsz hu hfr hin
      have hj : j < 11 := (Array.getElem?_eq_some_iff.1 ho).1
      obtain ⟨c0, c1, c2, c3, c4, c5, c6, c7⟩ := HC.out _ (b3w.trans hu)
      obtain ⟨y0, y1, y2, _, _, _, _⟩ := k2.later (b23.trans hu)
      rcases (by omega : j = 0 ∨ j = 1 ∨ j = 2 ∨ j = 3 ∨ j = 4 ∨ j = 5 ∨ j = 6 ∨ j = 7 ∨ j = 8 ∨ j = 9 ∨ j = 10) with rfl | rfl | rfl | rfl | rfl | rfl | rfl | rfl | rfl | rfl | rfl
      · simp only [List.getElem?_toArray, List.getElem?_cons_zero, List.getElem?_cons_succ, Option.some.injEq] at ho
        subst ho
        obtain rfl := Option.some.inj hdt
        have i1 : act.eval (.tmp (1 : Nat)) = .pointer (some ⟨w.heap.size, 0, none⟩) := hfr 1 (by decide)
        exact plain_wp (by intro c h; cases h) (fun _ _ => trivial) (by simp only [execOp, i1, evalC, evalF, evalG]; simp [go_sem, c1]) ⟨_, rfl, rfl, Bl.refl _⟩
      · simp only [List.getElem?_toArray, List.getElem?_cons_zero, List.getElem?_cons_succ, Option.some.injEq] at ho
        subst ho
        obtain rfl := Option.some.inj hdt
        have i39 : (act.eval (.tmp (39 : Nat))) = .pointer (some ⟨w.heap.size, 1, none⟩) := hin ⟨0, .data⟩ (by simp) rfl 39 rfl
        exact plain_wp (by intro c h; cases h) (fun _ _ => trivial) (by simp only [execOp, i39, evalC, evalF, evalG]; simp [go_sem, c1]) ⟨_, rfl, rfl, Bl.refl _⟩
      · simp only [List.getElem?_toArray, List.getElem?_cons_zero, List.getElem?_cons_succ, Option.some.injEq] at ho
        subst ho
        obtain rfl := Option.some.inj hdt
        have i40 : (act.eval (.tmp (40 : Nat))) = .slice px m cx := hin ⟨1, .data⟩ (by simp) rfl 40 rfl
        refine enter_wp 35 #[.slice px m cx] (by intro c h; cases h) (fun _ _ => trivial) (by simp only [execOp, evalC, evalF, evalG, resolve, i40, List.map_toArray, List.map_cons, List.map_nil]; simp [invoke, egW, Result.andThen, go_sem]) (by intro h; cases h) (callsIn_wide.2 (whole_linON px m cx (fun i => X.getD i 0) u (HXR.out.later (b0.trans (b3w.trans hu))) (by omega))) ?_
        rintro e w' ⟨q, c, rfl, hR, _, hb⟩
        exact ⟨_, rfl, _, rfl, ⟨q, c, rfl, hR⟩, hb⟩
      · simp only [List.getElem?_toArray, List.getElem?_cons_zero, List.getElem?_cons_succ, Option.some.injEq] at ho
        subst ho
        obtain rfl := Option.some.inj hdt
        have i3 : act.eval (.tmp (3 : Nat)) = .pointer (some ⟨w2.heap.size, 0, none⟩) := hfr 3 (by decide)
        exact plain_wp (by intro c h; cases h) (fun _ _ => trivial) (by simp only [execOp, i3, evalC, evalF, evalG]; simp [go_sem, y0, y1, y2]) ⟨_, rfl, rfl, Bl.refl _⟩
      · simp only [List.getElem?_toArray, List.getElem?_cons_zero, List.getElem?_cons_succ, Option.some.injEq] at ho
        subst ho
        obtain rfl := Option.some.inj hdt
        have i41 : ∃ q c, (act.eval (.tmp (41 : Nat))) = .slice q m c ∧ Rw 4 cellsN u (.slice q m c) (linJ m (fun i => wholeN (X.getD i 0))) := hin ⟨2, .data⟩ (by simp) rfl 41 rfl
        have i42 : (act.eval (.tmp (42 : Nat))) = mV m m p2 N c2' := hin ⟨3, .data⟩ (by simp) rfl 42 rfl
        obtain ⟨q0, cc0, e0, hq⟩ := i41
        refine enter_wp 34 #[.slice q0 m cc0, mV m m p2 N c2'] (by intro c h; cases h) (fun _ _ => trivial) (by simp only [execOp, evalC, evalF, evalG, resolve, e0, i42, List.map_toArray, List.map_cons, List.map_nil]; simp [invoke, egN, Result.andThen, go_sem]) (by intro h; cases h) (callsIn_wide.2 (rNewN m q0 cc0 (fun i => wholeN (X.getD i 0)) p2 N c2' (fun i k => wholeN (ofL m Ro i k)) u hq.q (HX2.out.later (b23.trans hu)) hm4)) ?_
        rintro e w' ⟨q, c, p', c', rfl, ⟨hR, hM⟩, hb⟩
        exact ⟨_, rfl, _, rfl, ⟨q, c, p', c', rfl, hR, hM⟩, hb⟩
      · simp only [List.getElem?_toArray, List.getElem?_cons_zero, List.getElem?_cons_succ, Option.some.injEq] at ho
        subst ho
        obtain rfl := Option.some.inj hdt
        have i43 : ∃ q c p' c', (act.eval (.tmp (43 : Nat))) = .tuple #[sJ q (m) c (m : Nat) (m : Nat) p' (N) c', .bool true] ∧ Rw 4 cellsN u (.slice q (m) c) (linJ (m) (fun i => wholeN (X.getD i 0))) ∧ Mx 4 cellsN u (m) (m) p' (N) c' (clrN (fun i k => wholeN (ofL m Ro i k))) := hin ⟨4, .data⟩ (by simp) rfl 43 rfl
        obtain ⟨q0, c0', p0, c0, e1, hq1, hq2⟩ := i43
        exact plain_wp (by intro c h; cases h) (fun _ _ => trivial) (by simp only [execOp, e1]; simp [go_sem]) ⟨_, rfl, ⟨q0, c0', p0, c0, rfl, hq1, hq2⟩, Bl.refl _⟩
      · simp only [List.getElem?_toArray, List.getElem?_cons_zero, List.getElem?_cons_succ, Option.some.injEq] at ho
        subst ho
        obtain rfl := Option.some.inj hdt
        have i38 : ∃ q c p' c', (act.eval (.tmp (38 : Nat))) = .tuple #[sJ q (m) c (m : Nat) (m : Nat) p' (N) c', .bool true] ∧ Rw 4 cellsN u (.slice q (m) c) (linJ (m) (fun i => wholeN (X.getD i 0))) ∧ Mx 4 cellsN u (m) (m) p' (N) c' (clrN (fun i k => wholeN (ofL m Ro i k))) := hin ⟨5, .data⟩ (by simp) rfl 38 rfl
        obtain ⟨q0, c0', p0, c0, e1, hq1, hq2⟩ := i38
        exact plain_wp (by intro c h; cases h) (fun _ _ => trivial) (by simp only [execOp, e1]; simp [go_sem]) ⟨_, rfl, ⟨q0, c0', p0, c0, rfl, hq1, hq2⟩, Bl.refl _⟩
      · cases hpu
      · simp only [List.getElem?_toArray, List.getElem?_cons_zero, List.getElem?_cons_succ, Option.some.injEq] at ho
        subst ho
        obtain rfl := Option.some.inj hdt
        exact plain_wp (by intro c h; cases h) (fun _ _ => trivial) (w' := u.alloc (.cells #[.slice none 0 0, .int .i64 0, .int .i64 0, .slice none 0 0] 50)) (v := .pointer (some ⟨u.heap.size, 0, none⟩)) (by simp only [execOp]; simp [go_sem]) ⟨_, rfl, ⟨u.heap.size, rfl, hu.size, SBox.new u _ _ _ _ _ _ _ _ _, noB_newSN u _⟩, (Bl.refl _).alloc _⟩
      · simp only [List.getElem?_toArray, List.getElem?_cons_zero, List.getElem?_cons_succ, Option.some.injEq] at ho
        subst ho
        cases hdt
      · cases hpu
    case still =>
      intro j o t act u0 u ho hdt hpu hsz hu hfr hin
      have hj : j < 11 := (Array.getElem?_eq_some_iff.1 ho).1
      obtain ⟨c0, c1, c2, c3, c4, c5, c6, c7⟩ := HC.out _ (b3w.trans hu)
      obtain ⟨y0, y1, y2, _, _, _, _⟩ := k2.later (b23.trans hu)
      rcases (by omega : j = 0 ∨ j = 1 ∨ j = 2 ∨ j = 3 ∨ j = 4 ∨ j = 5 ∨ j = 6 ∨ j = 7 ∨ j = 8 ∨ j = 9 ∨ j = 10) with rfl | rfl | rfl | rfl | rfl | rfl | rfl | rfl | rfl | rfl | rfl
      · cases hpu
      · cases hpu
      · cases hpu
      · cases hpu
      · cases hpu
      · cases hpu
      · cases hpu
      · simp only [List.getElem?_toArray, List.getElem?_cons_zero, List.getElem?_cons_succ, Option.some.injEq] at ho
        subst ho
        obtain rfl := Option.some.inj hdt
        have i38 : ∃ q c p' c', (act.eval (.tmp (38 : Nat))) = .tuple #[sJ q (m) c (m : Nat) (m : Nat) p' (N) c', .bool true] ∧ Rw 4 cellsN u0 (.slice q (m) c) (linJ (m) (fun i => wholeN (X.getD i 0))) ∧ Mx 4 cellsN u0 (m) (m) p' (N) c' (clrN (fun i k => wholeN (ofL m Ro i k))) := hin ⟨5, .data⟩ (by simp) rfl 38 rfl
        obtain ⟨q0, c0', p0, c0, e1, hq1, hq2⟩ := i38
        exact plain_wp (by intro c h; cases h) (fun _ _ => trivial) (by simp only [execOp, e1]; simp [go_sem]) ⟨_, rfl, rfl, rfl⟩
      · cases hpu
      · cases hpu
      · simp only [List.getElem?_toArray, List.getElem?_cons_zero, List.getElem?_cons_succ, Option.some.injEq] at ho
        subst ho
        obtain rfl := Option.some.inj hdt
        have i45 : (act.eval (.tmp (45 : Nat))) = .bool true := hin ⟨7, .data⟩ (by simp) rfl 45 rfl
        exact plain_wp (by intro c h; cases h) (fun _ _ => trivial) (by simp only [execOp, i45, evalC, evalF, evalG]; simp [go_sem]) ⟨_, rfl, rfl, rfl⟩
    case store =>
      intro o act u vs ho hsz hu hfr hin
      simp only [List.getElem?_toArray, List.getElem?_cons_zero, List.getElem?_cons_succ, Option.some.injEq] at ho
      subst ho
      obtain ⟨i6, k6⟩ : act.eval (.tmp (6 : Nat)) = vs 8 ∧ (∃ b, (vs 8) = .pointer (some ⟨b, 0, none⟩) ∧ W3.heap.size ≤ b ∧ SBox u b none 0 0 0 0 none 0 0 ∧ NoB u b) := hin 8 6 rfl rfl
      obtain ⟨i44, k44⟩ : act.eval (.tmp (44 : Nat)) = vs 6 ∧ (∃ q c p' c', (vs 6) = sJ q (m) c (m : Nat) (m : Nat) p' (N) c' ∧ Rw 4 cellsN u (.slice q (m) c) (linJ (m) (fun i => wholeN (X.getD i 0))) ∧ Mx 4 cellsN u (m) (m) p' (N) c' (clrN (fun i k => wholeN (ofL m Ro i k)))) := hin 6 44 rfl rfl
      obtain ⟨b, e1, hb, bx, nb⟩ := k6
      obtain ⟨q0, c0', p0, c0, e2, hq1, hq2⟩ := k44
      rw [e1] at i6
      rw [e2] at i44
      obtain ⟨d0, d1, d2, d3, g0, g1, g2, g3, ltb⟩ := id bx
      exact skip_wp (by intro c h; cases h) (fun _ _ => trivial) (by simp only [execOp, i6, i44]; simp [go_sem, d0, d1, d2, d3, g0, g1, g2, g3]) ⟨rfl, b, q0, c0', p0, c0, e1, hb, bx.fill _ _ _ _ _ _ _ _, hq1.but (but4N _ _ _ _ _ _) (fun g hg => noB_rwN hq1 (m1) nb g hg), Mx.but hq2 (but4N _ _ _ _ _ _) (fun g hg => Ne.symm (noB_mx boolN hq2 nb g hg)), Bl.put4 hu hb _ _ _ _⟩
    case fin =>
      intro vs vb u0 u hu hin hps
      have a0 := hin 0 39 rfl
      have a1 := hin 1 40 rfl
      have a2 := hin 2 41 rfl
      have a3 := hin 3 42 rfl
      have a4 := hin 4 43 rfl
      have a5 := hin 5 38 rfl
      have a6 := hin 6 44 rfl
      have a7 := hin 7 45 rfl
      have a8 := hin 8 6 rfl
      have a10 := hin 10 7 rfl
      simp only [putL, Act.put, List.setIfInBounds_toArray, List.set_cons_zero, List.set_cons_succ, Nat.zero_add, Nat.reduceAdd, Nat.reduceBEq, Bool.or_false, Bool.or_true, Bool.false_or, Bool.true_or, Bool.false_eq_true, if_false, if_true, reduceIte, Nat.reduceEqDiff, beq_self_eq_true, Bool.or_self] at a0 a1 a2 a3 a4 a5 a6 a7 a8 a10 ⊢
      rw [if_pos (by decide)] at hps
      simp only [a0, a1, a3, a7, a10]
      obtain ⟨b5, q5, cq5, p5, cc5, eb, hb, k5, hR, hM, hbu⟩ := hps
      simp only [eb]
      obtain ⟨w5, rfl⟩ : ∃ w5, w5 = u := ⟨_, rfl⟩
      have HR5 := hideP hR
      have HM5 := hideP hM
      have b35 : Bl W3 w5 := hbu
      have b5w : Bl W w5 := b3w.trans b35
      clear a2 a4 a5 a6 a8 hu hin hR hM
      go_wp2_with fail
      refine (wpIn_wide (n := 8)).1 (region_u (updN_ok (m) (N) (fun i => addE ((fun i => wholeN (X.getD i 0)) i) (mulE (divE ((runO kdN m (clrN (fun i k => wholeN (ofL m Ro i k))) (fun _ => wholeN 0) Rr m).e i) (runO kdN m (clrN (fun i k => wholeN (ofL m Ro i k))) (fun _ => wholeN 0) Rr m).a) (surpJ kdN m (fun i => wholeN (X.getD i 0)) (fun _ => wholeN 0) Zz))) ((runO kdN m (clrN (fun i k => wholeN (ofL m Ro i k))) (fun _ => wholeN 0) Rr m).s) (surpJ kdN m (fun i => wholeN (X.getD i 0)) (fun _ => wholeN 0) Zz) ((runO kdN m (clrN (fun i k => wholeN (ofL m Ro i k))) (fun _ => wholeN 0) Rr m).a)) fm [some 47, some 48, some 49, some 50, some 51, some 52, some 53, some 54, some 55, some 56, some 57, some 58, some 59, some 60, some 46, some 61, some 62, some 63, some 8, some 9, none, none, some 10] 13 (by kernel_rfl) (by rfl) 60 46 61 62 63 8 9 10 rfl
          (fun j v u => match j with | 0 => v = sJ q5 m cq5 m m p5 N cc5 | 1 => v = .pointer (some ⟨w.heap.size, 0, none⟩) | 2 => v = .int .i64 m | 3 => ∃ g, v = .slice (some ⟨g, 0, none⟩) m m ∧ Rq 1 cI u (.slice (some ⟨g, 0, none⟩) m m) (linJ m fun _ => (0 : Int)) | 4 => ∃ q c, v = .slice q m c ∧ Rw 4 cellsN u (.slice q m c) (linJ m (fun _ => wholeN 0)) | 5 => v = enV one | 6 => v = .pointer (some ⟨w.heap.size, 6, none⟩) | 7 => v = .int .i64 r | 8 => v = enV Rr | 9 => v = enV one | 10 => v = .pointer (some ⟨w.heap.size, 7, none⟩) | 11 => v = .int .i64 z | 12 => v = enV Zz | _ => False)
          (by
            intro j v u u' hb h
            split at h <;> first | exact h | (obtain ⟨q, c, e, h1⟩ := h; exact ⟨q, c, e, h1.later hb⟩) | (obtain ⟨g, e, h1⟩ := h; exact ⟨g, e, h1.later hb⟩)) ?step ?call ?mv ?x0 ?x1 ?x2 ?la ?lb ?sa ?sb ?asg ?fin)
      case step =>
        intro j o t act u hjk ho hdt hsz hu hfr hin
        obtain ⟨c0, c1, c2, c3, c4, c5, c6, c7⟩ := HC.out _ (b5w.trans hu)
        obtain ⟨s0, s1, s2, s3, _, _, _, _, _⟩ := k5.later hu
        obtain ⟨o0, o1, o2, o3, _, _, _, _, _⟩ := k3.later (b35.trans hu)
        rcases (by omega : j = 0 ∨ j = 1 ∨ j = 2 ∨ j = 3 ∨ j = 4 ∨ j = 5 ∨ j = 6 ∨ j = 7 ∨ j = 8 ∨ j = 9 ∨ j = 10 ∨ j = 11 ∨ j = 12) with rfl | rfl | rfl | rfl | rfl | rfl | rfl | rfl | rfl | rfl | rfl | rfl | rfl
        · simp only [List.getElem?_toArray, List.getElem?_cons_zero, List.getElem?_cons_succ, Option.some.injEq] at ho
          subst ho
          obtain rfl := Option.some.inj hdt
          have i6 : act.eval (.tmp (6 : Nat)) = .pointer (some ⟨b5, 0, none⟩) := hfr 6 (by decide)
          exact plain_wp (by intro c h; cases h) (fun _ _ => trivial) (by simp only [execOp, i6, evalC, evalF, evalG]; simp [go_sem, s0, s1, s2, s3]) ⟨_, rfl, rfl, Bl.refl _⟩
        · simp only [List.getElem?_toArray, List.getElem?_cons_zero, List.getElem?_cons_succ, Option.some.injEq] at ho
          subst ho
          obtain rfl := Option.some.inj hdt
          have i1 : act.eval (.tmp (1 : Nat)) = .pointer (some ⟨w.heap.size, 0, none⟩) := hfr 1 (by decide)
          exact plain_wp (by intro c h; cases h) (fun _ _ => trivial) (by simp only [execOp, i1, evalC, evalF, evalG]; simp [go_sem, c0]) ⟨_, rfl, rfl, Bl.refl _⟩
        · simp only [List.getElem?_toArray, List.getElem?_cons_zero, List.getElem?_cons_succ, Option.some.injEq] at ho
          subst ho
          obtain rfl := Option.some.inj hdt
          have i48 : (act.eval (.tmp (48 : Nat))) = .pointer (some ⟨w.heap.size, 0, none⟩) := hin ⟨1, .data⟩ (by simp) rfl 48 rfl
          exact plain_wp (by intro c h; cases h) (fun _ _ => trivial) (by simp only [execOp, i48, evalC, evalF, evalG]; simp [go_sem, c0]) ⟨_, rfl, rfl, Bl.refl _⟩
        · simp only [List.getElem?_toArray, List.getElem?_cons_zero, List.getElem?_cons_succ, Option.some.injEq] at ho
          subst ho
          obtain rfl := Option.some.inj hdt
          have i49 : (act.eval (.tmp (49 : Nat))) = .int .i64 m := hin ⟨2, .data⟩ (by simp) rfl 49 rfl
          obtain ⟨u', hr, hq, hb⟩ := make_zeroON m (by omega) u
          exact plain_wp (by intro c h; cases h) (fun _ _ => trivial) (w' := u') (v := .slice (some ⟨u.heap.size, 0, none⟩) m m) (by simp only [execOp, i49]; rw [Sem.run_bind, hr]; rfl) ⟨_, rfl, ⟨u.heap.size, rfl, hq⟩, hb⟩
        · simp only [List.getElem?_toArray, List.getElem?_cons_zero, List.getElem?_cons_succ, Option.some.injEq] at ho
          subst ho
          obtain rfl := Option.some.inj hdt
          have i50 : ∃ g, (act.eval (.tmp (50 : Nat))) = .slice (some ⟨g, 0, none⟩) m m ∧ Rq 1 cI u (.slice (some ⟨g, 0, none⟩) m m) (linJ m fun _ => (0 : Int)) := hin ⟨3, .data⟩ (by simp) rfl 50 rfl
          obtain ⟨g0, e0, hg⟩ := i50
          refine enter_wp 35 #[.slice (some ⟨g0, 0, none⟩) m m] (by intro c h; cases h) (fun _ _ => trivial) (by simp only [execOp, evalC, evalF, evalG, resolve, e0, List.map_toArray, List.map_cons, List.map_nil]; simp [invoke, egW, Result.andThen, go_sem]) (by intro h; cases h) (callsIn_wide.2 (whole_linON _ m m (fun _ => (0 : Int)) u hg (by omega))) ?_
          rintro e w' ⟨q, c, rfl, hR, _, hb⟩
          exact ⟨_, rfl, _, rfl, ⟨q, c, rfl, hR⟩, hb⟩
        · simp only [List.getElem?_toArray, List.getElem?_cons_zero, List.getElem?_cons_succ, Option.some.injEq] at ho
          subst ho
          obtain rfl := Option.some.inj hdt
          have i5 : act.eval (.tmp (5 : Nat)) = .pointer (some ⟨w3.heap.size, 0, none⟩) := hfr 5 (by decide)
          exact plain_wp (by intro c h; cases h) (fun _ _ => trivial) (by simp only [execOp, i5, evalC, evalF, evalG]; simp [go_sem, o0, o1, o2, o3]) ⟨_, rfl, rfl, Bl.refl _⟩
        · simp only [List.getElem?_toArray, List.getElem?_cons_zero, List.getElem?_cons_succ, Option.some.injEq] at ho
          subst ho
          obtain rfl := Option.some.inj hdt
          have i1 : act.eval (.tmp (1 : Nat)) = .pointer (some ⟨w.heap.size, 0, none⟩) := hfr 1 (by decide)
          exact plain_wp (by intro c h; cases h) (fun _ _ => trivial) (by simp only [execOp, i1, evalC, evalF, evalG]; simp [go_sem, c6]) ⟨_, rfl, rfl, Bl.refl _⟩
        · simp only [List.getElem?_toArray, List.getElem?_cons_zero, List.getElem?_cons_succ, Option.some.injEq] at ho
          subst ho
          obtain rfl := Option.some.inj hdt
          have i53 : (act.eval (.tmp (53 : Nat))) = .pointer (some ⟨w.heap.size, 6, none⟩) := hin ⟨6, .data⟩ (by simp) rfl 53 rfl
          exact plain_wp (by intro c h; cases h) (fun _ _ => trivial) (by simp only [execOp, i53, evalC, evalF, evalG]; simp [go_sem, c6]) ⟨_, rfl, rfl, Bl.refl _⟩
        · simp only [List.getElem?_toArray, List.getElem?_cons_zero, List.getElem?_cons_succ, Option.some.injEq] at ho
          subst ho
          obtain rfl := Option.some.inj hdt
          have i52 : (act.eval (.tmp (52 : Nat))) = enV one := hin ⟨5, .data⟩ (by simp) rfl 52 rfl
          have i54 : (act.eval (.tmp (54 : Nat))) = .int .i64 r := hin ⟨7, .data⟩ (by simp) rfl 54 rfl
          refine enter_wp 37 #[enV one, .int .i64 r] (by intro c h; cases h) (fun _ _ => trivial) (by simp only [execOp, evalC, evalF, evalG, resolve, i52, i54, List.map_toArray, List.map_cons, List.map_nil]; simp [invoke, egO, Result.andThen, go_sem]) (by intro h; cases h) (callsIn_wide.2 (ofE_any one r u)) ?_
          rintro e w' ⟨rfl, hb⟩
          exact ⟨_, rfl, _, rfl, show enV (ptE (foN r) (foB r)) = enV Rr from by rw [HRr.out], hb⟩
        · simp only [List.getElem?_toArray, List.getElem?_cons_zero, List.getElem?_cons_succ, Option.some.injEq] at ho
          subst ho
          obtain rfl := Option.some.inj hdt
          have i5 : act.eval (.tmp (5 : Nat)) = .pointer (some ⟨w3.heap.size, 0, none⟩) := hfr 5 (by decide)
          exact plain_wp (by intro c h; cases h) (fun _ _ => trivial) (by simp only [execOp, i5, evalC, evalF, evalG]; simp [go_sem, o0, o1, o2, o3]) ⟨_, rfl, rfl, Bl.refl _⟩
        · simp only [List.getElem?_toArray, List.getElem?_cons_zero, List.getElem?_cons_succ, Option.some.injEq] at ho
          subst ho
          obtain rfl := Option.some.inj hdt
          have i1 : act.eval (.tmp (1 : Nat)) = .pointer (some ⟨w.heap.size, 0, none⟩) := hfr 1 (by decide)
          exact plain_wp (by intro c h; cases h) (fun _ _ => trivial) (by simp only [execOp, i1, evalC, evalF, evalG]; simp [go_sem, c7]) ⟨_, rfl, rfl, Bl.refl _⟩
        · simp only [List.getElem?_toArray, List.getElem?_cons_zero, List.getElem?_cons_succ, Option.some.injEq] at ho
          subst ho
          obtain rfl := Option.some.inj hdt
          have i57 : (act.eval (.tmp (57 : Nat))) = .pointer (some ⟨w.heap.size, 7, none⟩) := hin ⟨10, .data⟩ (by simp) rfl 57 rfl
          exact plain_wp (by intro c h; cases h) (fun _ _ => trivial) (by simp only [execOp, i57, evalC, evalF, evalG]; simp [go_sem, c7]) ⟨_, rfl, rfl, Bl.refl _⟩
        · simp only [List.getElem?_toArray, List.getElem?_cons_zero, List.getElem?_cons_succ, Option.some.injEq] at ho
          subst ho
          obtain rfl := Option.some.inj hdt
          have i56 : (act.eval (.tmp (56 : Nat))) = enV one := hin ⟨9, .data⟩ (by simp) rfl 56 rfl
          have i58 : (act.eval (.tmp (58 : Nat))) = .int .i64 z := hin ⟨11, .data⟩ (by simp) rfl 58 rfl
          refine enter_wp 37 #[enV one, .int .i64 z] (by intro c h; cases h) (fun _ _ => trivial) (by simp only [execOp, evalC, evalF, evalG, resolve, i56, i58, List.map_toArray, List.map_cons, List.map_nil]; simp [invoke, egO, Result.andThen, go_sem]) (by intro h; cases h) (callsIn_wide.2 (ofE_any one z u)) ?_
          rintro e w' ⟨rfl, hb⟩
          exact ⟨_, rfl, _, rfl, show enV (ptE (foN z) (foB z)) = enV Zz from by rw [HZz.out], hb⟩
      case call =>
        intro o act u ho hsz hu hfr hin
        obtain ⟨c0, c1, c2, c3, c4, c5, c6, c7⟩ := HC.out _ (b5w.trans hu)
        obtain ⟨s0, s1, s2, s3, _, _, _, _, _⟩ := k5.later hu
        obtain ⟨o0, o1, o2, o3, _, _, _, _, _⟩ := k3.later (b35.trans hu)
        simp only [List.getElem?_toArray, List.getElem?_cons_zero, List.getElem?_cons_succ, Option.some.injEq, Nat.reduceAdd] at ho
        subst ho
        have i47 : (act.eval (.tmp (47 : Nat))) = sJ q5 m cq5 m m p5 N cc5 := hin ⟨0, .data⟩ (by simp) rfl 47 rfl
        have i51 : ∃ q c, (act.eval (.tmp (51 : Nat))) = .slice q m c ∧ Rw 4 cellsN u (.slice q m c) (linJ m (fun _ => wholeN 0)) := hin ⟨4, .data⟩ (by simp) rfl 51 rfl
        have i55 : (act.eval (.tmp (55 : Nat))) = enV Rr := hin ⟨8, .data⟩ (by simp) rfl 55 rfl
        have i59 : (act.eval (.tmp (59 : Nat))) = enV Zz := hin ⟨12, .data⟩ (by simp) rfl 59 rfl
        obtain ⟨q0, cc0, e0, hq⟩ := i51
        refine enter_wp 36 #[sJ q5 m cq5 m m p5 N cc5, .slice q0 m cc0, enV Rr, enV Zz] (by intro c h; cases h) (fun _ _ => trivial) (by simp only [execOp, evalC, evalF, evalG, resolve, i47, e0, i55, i59, List.map_toArray, List.map_cons, List.map_nil]; simp [invoke, egU, Result.andThen, go_sem]) (by intro h; cases h) (callsIn_wide.2 (rUpdateN m N q5 cq5 (fun i => wholeN (X.getD i 0)) p5 cc5 (clrN (fun i k => wholeN (ofL m Ro i k))) q0 cc0 (fun _ => wholeN 0) Rr Zz u (HR5.out.later hu).q (HM5.out.later hu) hq.q hm4)) ?_
        rintro e w' ⟨q, c, p', c', rfl, ⟨hR, hM, hF1, hF2⟩, hb⟩
        exact ⟨_, rfl, (q, c, p', c'), rfl, ⟨hR, hM⟩, hb, fun b hb' _ => ⟨fun g hg => by have := hF1 g hg; omega, fun g hg => by have := hF2 g hg; omega⟩⟩
      case mv =>
        intro o act u x ho hx
        simp only [List.getElem?_toArray, List.getElem?_cons_zero, List.getElem?_cons_succ, Option.some.injEq, Nat.reduceAdd] at ho
        subst ho
        exact plain_wp (by intro c h; cases h) (fun _ _ => trivial) (by simp only [execOp, hx]; simp [go_sem]) ⟨rfl, rfl⟩
      case x0 =>
        intro o act u x y z ho hx
        simp only [List.getElem?_toArray, List.getElem?_cons_zero, List.getElem?_cons_succ, Option.some.injEq, Nat.reduceAdd] at ho
        subst ho
        exact plain_wp (by intro c h; cases h) (fun _ _ => trivial) (by simp only [execOp, hx]; simp [go_sem]) ⟨rfl, rfl⟩
      case x1 =>
        intro o act u x y z ho hx
        simp only [List.getElem?_toArray, List.getElem?_cons_zero, List.getElem?_cons_succ, Option.some.injEq, Nat.reduceAdd] at ho
        subst ho
        exact plain_wp (by intro c h; cases h) (fun _ _ => trivial) (by simp only [execOp, hx]; simp [go_sem]) ⟨rfl, rfl⟩
      case x2 =>
        intro o act u x y z ho hx
        simp only [List.getElem?_toArray, List.getElem?_cons_zero, List.getElem?_cons_succ, Option.some.injEq, Nat.reduceAdd] at ho
        subst ho
        exact plain_wp (by intro c h; cases h) (fun _ _ => trivial) (by simp only [execOp, hx]; simp [go_sem]) ⟨rfl, rfl⟩
      case la =>
        intro o act u ho
        simp only [List.getElem?_toArray, List.getElem?_cons_zero, List.getElem?_cons_succ, Option.some.injEq, Nat.reduceAdd] at ho
        subst ho
        exact plain_wp (by intro c h; cases h) (fun _ _ => trivial) (w' := u.alloc (.cells #[.slice none 0 0, .int .i64 0, .int .i64 0, .slice none 0 0] 50)) (v := .pointer (some ⟨u.heap.size, 0, none⟩)) (by simp only [execOp]; simp [go_sem]) ⟨rfl, SBox.new u _ _ _ _ _ _ _ _ _, (Bl.refl _).alloc _, by simp⟩
      case lb =>
        intro o act u ho
        simp only [List.getElem?_toArray, List.getElem?_cons_zero, List.getElem?_cons_succ, Option.some.injEq, Nat.reduceAdd] at ho
        subst ho
        exact plain_wp (by intro c h; cases h) (fun _ _ => trivial) (w' := u.alloc (.cells #[.int .i64 0, .int .i64 0, .int .i64 0, .bool false, .int .i64 0, .int .i64 0, .int .i64 0, .bool false] 54)) (v := .pointer (some ⟨u.heap.size, 0, none⟩)) (by simp only [execOp]; simp [go_sem]) ⟨rfl, NBoxN.new u zeroE zeroE _, (Bl.refl _).alloc _, by simp⟩
      case sa =>
        intro o act u D b ho hA h0 hz hdat hoff hbl hb
        simp only [List.getElem?_toArray, List.getElem?_cons_zero, List.getElem?_cons_succ, Option.some.injEq, Nat.reduceAdd] at ho
        subst ho
        obtain ⟨q0, c0, p0, c1⟩ := D
        replace h0 : act.eval (.tmp 61) = sJ q0 (m) c0 (m) (m) p0 (N) c1 := h0
        obtain ⟨d0, d1, d2, d3, g0, g1, g2, g3, lt⟩ := (show SBox u b none 0 0 0 0 none 0 0 from hz)
        exact skip_wp (by intro c h; cases h) (fun _ _ => trivial) (by simp only [execOp, hA, h0]; simp [go_sem, d0, d1, d2, d3, g0, g1, g2, g3]) ⟨rfl, SBox.fill (show SBox u b none 0 0 0 0 none 0 0 from hz) _ _ _ _ _ _ _ _, ⟨hdat.1.but (but4N _ _ _ _ _ _) (fun g hg => hoff.1 g hg), hdat.2.but (but4N _ _ _ _ _ _) (fun g hg => hoff.2 g hg)⟩, Bl.put4 hbl hb _ _ _ _, fun b' h' => heap4N _ h' _ _ _ _, by simp⟩
      case sb =>
        intro o act u D b ho hA h0 hz hdat hoff hbl hb
        simp only [List.getElem?_toArray, List.getElem?_cons_zero, List.getElem?_cons_succ, Option.some.injEq, Nat.reduceAdd] at ho
        subst ho
        obtain ⟨q0, c0, p0, c1⟩ := D
        replace h0 : act.eval (.tmp 62) = newsVN (surpJ kdN m (fun i => wholeN (X.getD i 0)) (fun _ => wholeN 0) Zz) ((runO kdN m (clrN (fun i k => wholeN (ofL m Ro i k))) (fun _ => wholeN 0) Rr m).a) := h0
        obtain ⟨d0, d1, d2, d3, d4, d5, d6, d7, g0, g1, g2, g3, g4, g5, g6, g7, lt⟩ := (show NBoxN u b zeroE zeroE from hz)
        exact skip_wp (by intro c h; cases h) (fun _ _ => trivial) (by simp only [execOp, hA, h0]; simp [go_sem, d0, d1, d2, d3, d4, d5, d6, d7, g0, g1, g2, g3, g4, g5, g6, g7]) ⟨rfl, NBoxN.fill (show NBoxN u b zeroE zeroE from hz) _ _, ⟨hdat.1.but (butNN _ _ _ _) (fun g hg => hoff.1 g hg), hdat.2.but (butNN _ _ _ _) (fun g hg => hoff.2 g hg)⟩, blNN b hbl hb _ _, fun b' h' => heapNN _ h' _ _, by simp⟩
      case asg =>
        intro o act u x ho hx
        simp only [List.getElem?_toArray, List.getElem?_cons_zero, List.getElem?_cons_succ, Option.some.injEq, Nat.reduceAdd] at ho
        subst ho
        exact plain_wp (by intro c h; cases h) (fun _ _ => trivial) (by simp only [execOp, hx]; simp [go_sem]) ⟨rfl, rfl⟩
      case fin =>
        intro vs u D b8 n8' hu e9' e5' e6' hb1 hb2 hsa hsb hdat
        simp only [putL, Act.put, List.setIfInBounds_toArray, List.set_cons_zero, List.set_cons_succ, Nat.zero_add, Nat.reduceAdd] at e9' e5' e6' ⊢
        replace e9' := Eq.trans e9' (show _ = Value.bool true from rfl)
        simp only [e9', e5', e6']
        obtain ⟨q8, cq8, p8, c8⟩ := D
        obtain ⟨w8, rfl⟩ : ∃ w8, w8 = u := ⟨_, rfl⟩
        have k8 : SBox w8 b8 q8 m cq8 m m p8 N c8 := hsa
        have n8 : NBoxN w8 n8' (surpJ kdN m (fun i => wholeN (X.getD i 0)) (fun _ => wholeN 0) Zz) ((runO kdN m (clrN (fun i k => wholeN (ofL m Ro i k))) (fun _ => wholeN 0) Rr m).a) := hsb
        have HD8 : Rw 4 cellsN w8 (.slice q8 m cq8) (linJ m (fun i => addE ((fun i => wholeN (X.getD i 0)) i) (mulE (divE ((runO kdN m (clrN (fun i k => wholeN (ofL m Ro i k))) (fun _ => wholeN 0) Rr m).e i) (runO kdN m (clrN (fun i k => wholeN (ofL m Ro i k))) (fun _ => wholeN 0) Rr m).a) (surpJ kdN m (fun i => wholeN (X.getD i 0)) (fun _ => wholeN 0) Zz)))) ∧ Mx 4 cellsN w8 m m p8 N c8 ((runO kdN m (clrN (fun i k => wholeN (ofL m Ro i k))) (fun _ => wholeN 0) Rr m).s) := hdat
        have E1 := HSO.out.surp
        have E2 := HSO.out.a
        rw [← HZi.out] at E1
        rw [← HRi.out] at E2
        rw [E1, E2] at n8
        have HX8 : Rw 4 cellsN w8 (.slice q8 m cq8) (linJ m (fun i => wholeN (X.getD i 0))) := by
          have := HD8.1
          rw [show linJ m (fun i => addE ((fun i => wholeN (X.getD i 0)) i) (mulE (divE ((runO kdN m (clrN (fun i k => wholeN (ofL m Ro i k))) (fun _ => wholeN 0) Rr m).e i) (runO kdN m (clrN (fun i k => wholeN (ofL m Ro i k))) (fun _ => wholeN 0) Rr m).a) (surpJ kdN m (fun i => wholeN (X.getD i 0)) (fun _ => wholeN 0) Zz))) = linJ m (fun i => wholeN (X.getD i 0)) from by
            unfold linJ
            exact List.map_congr_left fun i hi => by have := HSO.out.x i (by simpa using hi); rw [← HRi.out, ← HZi.out] at this; exact this] at this
          exact this
        have HM8 : Rq 4 cellsN w8 (.slice p8 N c8) (mk m m (clrN (fun i k => wholeN (ofL m Ro i k)))) := by
          have := HD8.2.2.2
          rw [show mk m m ((runO kdN m (clrN (fun i k => wholeN (ofL m Ro i k))) (fun _ => wholeN 0) Rr m).s) = mk m m (clrN (fun i k => wholeN (ofL m Ro i k))) from mk_congr fun i k hi hk => by have := HSO.out.s i k hi hk; rw [← HRi.out] at this; exact this] at this
          exact this
        have b58 : Bl w5 w8 := hu
        have b38 : Bl W3 w8 := b35.trans hu
        have b8w : Bl W w8 := b3w.trans b38
        have B8 : Bl w w8 := b0.trans b8w
        clear hsa hsb hdat HD8 E1 E2
        obtain ⟨gM5, oM5, hgM5, hlM, CM5⟩ := rq_cellsL (HM5.out.later b58).2.2 (by omega)
        obtain ⟨gM8, oM8, hgM8, _, CM8⟩ := rq_cellsL HM8 (by omega)
        obtain ⟨gX5, oX5, hgX5, hlX, CX5⟩ := rq_cellsL (HR5.out.later b58).q (by omega)
        obtain ⟨gX8, oX8, hgX8, _, CX8⟩ := rq_cellsL HX8.q (by omega)
        have HGM5 := hideP hgM5
        have HGM8 := hideP hgM8
        have HGX5 := hideP hgX5
        have HGX8 := hideP hgX8
        have HCM5 := hideP CM5
        have HCM8 := hideP CM8
        have HCX5 := hideP CX5
        have HCX8 := hideP CX8
        have HLM5 := hideP hlM
        have HLX5 := hideP hlX
        clear hgM5 hgM8 hgX5 hgX8 hlM hlX CM5 CM8 CX5 CX8 HX8 HM8
        obtain ⟨s0, s1, s2, s3, _, _, _, _, _⟩ := k5.later b58
        obtain ⟨v0, v1, v2, v3, _, _, _, _, _⟩ := id k8
        obtain ⟨c0, c1, c2, c3, c4, c5, c6, c7⟩ := HC.out w8 (b8w)
        go_wp2_with fail
        clear s0 s1 s2 s3 v0 v1 v2 v3 c0 c1 c2 c3 c4 c5 c6 c7
        go_loopw [93] (fun v wr => ∃ tt : Nat, v = .int .i64 tt ∧ tt ≤ N ∧ Bl w8 wr) (fun v _ => N - (intOf v).toNat)
        case atStart => exact ⟨0, rfl, Nat.zero_le _, Bl.refl _⟩
        case round =>
          obtain ⟨tt, rfl, ht, bl⟩ := hrel
          by_cases hlt2 : tt < N
          · obtain ⟨x, hx⟩ : ∃ x, (mk m m (clrN (fun i k => wholeN (ofL m Ro i k))))[tt]? = some x := ⟨_, List.getElem?_eq_getElem (by rw [HLM5.out]; exact hlt2)⟩
            have CS := fun (z : Wl wr) => HCM5.out z.w ((bl.trans z.bl)) tt x hx
            have CT := fun (z : Wl wr) => HCM8.out z.w ((bl.trans z.bl)) tt x hx
            clear hx
            have x0 := fun z => (CS z).1
            have x1 := fun z => (CS z).2.1
            have x2 := fun z => (CS z).2.2.1
            have x3 := fun z => (CS z).2.2.2
            have y0 := fun z => (CT z).1
            have y1 := fun z => (CT z).2.1
            have y2 := fun z => (CT z).2.2.1
            have y3 := fun z => (CT z).2.2.2
            have s0 := fun z : Wl wr => (k5.later ((b58.trans bl).trans z.bl)).c3
            have t0 := fun z : Wl wr => (k8.later (bl.trans z.bl)).c3
            rw [HGM5.out] at s0
            rw [HGM8.out] at t0
            have nx := neq_nn x
            obtain ⟨xv, xl, xh, xb⟩ := x
            have wne := wl_ne wr
            clear CS CT
            dsimp only at x0 x1 x2 x3 y0 y1 y2 y3
            go_wp2_with fail
            refine wl_region wr (Bl.refl _) (by kernel_rfl) (by kernel_rfl) ?_
            repeat (go_big_quiet_step (first | fail))
            refine wpQuiet_nil ?_
            intro _ hw'
            obtain ⟨z, hw''⟩ := hw'
            subst hw''
            clear wne x0 x1 x2 x3 y0 y1 y2 y3 s0 t0
            obtain ⟨wz, hz⟩ := z
            dsimp only
            go_wp2
            go_roundw
            case rel => exact ⟨tt + 1, by simp, hlt2, bl.trans hz⟩
            case measure => simp [intOf]; omega
          · obtain rfl : tt = N := by omega
            have bw1 : Bl w8 wr := bl
            obtain ⟨w9, rfl⟩ : ∃ w9, w9 = wr := ⟨_, rfl⟩
            obtain ⟨s0, s1, s2, s3, _, _, _, _, _⟩ := k5.later (b58.trans bw1)
            clear ht hlt2 bl
            go_wp2_with fail
            clear s0 s1 s2 s3
            go_loopw [113] (fun v wr => ∃ tt : Nat, v = .int .i64 tt ∧ tt ≤ m ∧ Bl w9 wr) (fun v _ => m - (intOf v).toNat)
            case atStart => exact ⟨0, rfl, Nat.zero_le _, Bl.refl _⟩
            case round =>
              obtain ⟨tt, rfl, ht, bl⟩ := hrel
              by_cases hlt2 : tt < m
              · obtain ⟨x, hx⟩ : ∃ x, (linJ m (fun i => wholeN (X.getD i 0)))[tt]? = some x := ⟨_, List.getElem?_eq_getElem (by rw [HLX5.out]; exact hlt2)⟩
                have CS := fun (z : Wl wr) => HCX5.out z.w (bw1.trans (bl.trans z.bl)) tt x hx
                have CT := fun (z : Wl wr) => HCX8.out z.w (bw1.trans (bl.trans z.bl)) tt x hx
                clear hx
                have x0 := fun z => (CS z).1
                have x1 := fun z => (CS z).2.1
                have x2 := fun z => (CS z).2.2.1
                have x3 := fun z => (CS z).2.2.2
                have y0 := fun z => (CT z).1
                have y1 := fun z => (CT z).2.1
                have y2 := fun z => (CT z).2.2.1
                have y3 := fun z => (CT z).2.2.2
                have s0 := fun z : Wl wr => (k5.later ((b58.trans (bw1.trans bl)).trans z.bl)).c0
                have t0 := fun z : Wl wr => (k8.later ((bw1.trans bl).trans z.bl)).c0
                rw [HGX5.out] at s0
                rw [HGX8.out] at t0
                have nx := neq_nn x
                obtain ⟨xv, xl, xh, xb⟩ := x
                have wne := wl_ne wr
                clear CS CT
                dsimp only at x0 x1 x2 x3 y0 y1 y2 y3
                go_wp2_with fail
                refine wl_region wr (Bl.refl _) (by kernel_rfl) (by kernel_rfl) ?_
                repeat (go_big_quiet_step (first | fail))
                refine wpQuiet_nil ?_
                intro _ hw'
                obtain ⟨z, hw''⟩ := hw'
                subst hw''
                clear wne x0 x1 x2 x3 y0 y1 y2 y3 s0 t0
                obtain ⟨wz, hz⟩ := z
                dsimp only
                go_wp2
                go_roundw
                case rel => exact ⟨tt + 1, by simp, hlt2, bl.trans hz⟩
                case measure => simp [intOf]; omega
              · obtain rfl : tt = m := by omega
                have AW' := hideP (fun zw : Wl wr => AW.out zw.w)
                have OF := hideP (fun a x (zw : Wl wr) => ofE_any a x zw.w)
                have HRo := HRr.out
                have HZo := HZz.out
                have cc6 := fun z : Wl wr => (HC.out z.w (b8w.trans ((bw1.trans bl).trans z.bl))).2.2.2.2.2.2.1
                have cc7 := fun z : Wl wr => (HC.out z.w (b8w.trans ((bw1.trans bl).trans z.bl))).2.2.2.2.2.2.2
                have m0 := fun z : Wl wr => (n8.later ((bw1.trans bl).trans z.bl)).c0
                have m1' := fun z : Wl wr => (n8.later ((bw1.trans bl).trans z.bl)).c1
                have m2 := fun z : Wl wr => (n8.later ((bw1.trans bl).trans z.bl)).c2
                have m3' := fun z : Wl wr => (n8.later ((bw1.trans bl).trans z.bl)).c3
                have m4 := fun z : Wl wr => (n8.later ((bw1.trans bl).trans z.bl)).c4
                have m5 := fun z : Wl wr => (n8.later ((bw1.trans bl).trans z.bl)).c5
                have m6 := fun z : Wl wr => (n8.later ((bw1.trans bl).trans z.bl)).c6
                have m7 := fun z : Wl wr => (n8.later ((bw1.trans bl).trans z.bl)).c7
                have o0 := fun z : Wl wr => (k3.later ((b38.trans (bw1.trans bl)).trans z.bl)).c0
                have o1 := fun z : Wl wr => (k3.later ((b38.trans (bw1.trans bl)).trans z.bl)).c1
                have o2 := fun z : Wl wr => (k3.later ((b38.trans (bw1.trans bl)).trans z.bl)).c2
                have o3 := fun z : Wl wr => (k3.later ((b38.trans (bw1.trans bl)).trans z.bl)).c3
                have sr := eql_nn Rr
                have sz := eql_nn Zz
                have OR := hideP (fun (zw : Wl wr) => by have := ofE_any one r zw.w; rw [HRo] at this; exact this)
                have OZ := hideP (fun (zw : Wl wr) => by have := ofE_any one z zw.w; rw [HZo] at this; exact this)
                obtain ⟨rv, rl, rh, rb⟩ := Rr
                obtain ⟨zv, zl, zh, zb⟩ := Zz
                obtain ⟨ov, ol, oh, ob⟩ := one
                dsimp only at m0 m1' m2 m3' m4 m5 m6 m7 o0 o1 o2 o3
                have wne := wl_ne wr
                clear HRo HZo OF
                go_wp2_with fail
                refine wl_region wr (Bl.refl _) (by kernel_rfl) (by kernel_rfl) ?_
                repeat (go_big_quiet_step (first | (go_at_call 37; first | exact wl_call (OR.out _) | exact wl_call (OZ.out _)) | (go_at_call 10; exact wl_call (AW'.out _))))
                refine wpQuiet_nil ?_
                intro _ hw'
                obtain ⟨z, hw''⟩ := hw'
                subst hw''
                clear wne cc6 cc7 m0 m1' m2 m3' m4 m5 m6 m7 o0 o1 o2 o3
                obtain ⟨wz, hz⟩ := z
                dsimp only
                go_wp2
                go_ret
                exact ⟨rfl, (B8.trans (bw1.trans bl)).trans hz⟩
end Go.Proofs.YtljmggemdkfbiaaGreat

/- A slice of whole numbers as an argument: opened. -/
namespace Go.Proofs.YtljmggemdkfbiaaGreat
open Go.ChangeShapes Go.WideShapes Go.ChangeAt Go.RowKit
set_option linter.unusedVariables false

theorem Tryz.cellsInt : Tryz.prog.cellsOf 3 = 1 := by kernel_rfl
theorem cell_block_lt {W : World} {b o : Nat} {v : Value} (h : W.cell? ⟨b, o, none⟩ = some v) : b < W.heap.size := by
  rcases Nat.lt_or_ge b W.heap.size with h' | h'
  · exact h'
  · have : W.heap[b]? = none := Array.getElem?_eq_none h'
    simp [World.cell?, this] at h
set_option maxRecDepth 1000000 in
theorem open_row {H : Type} {enc : TypeId × Value → H} {W : World} {b0 : Nat} {v : Value} {d : DataW H} {p : List MemPlace}
    (hv : Value.okWide Tryz.prog W .any b0 22 v) (h : DataW.Trod enc Tryz.prog W 0 (fun _ => true) true 22 v d p) : ∃ ns : List Int, Rq 1 cI W v ns ∧ ∀ n ∈ ns, (Lit.int .i64 n).wf = true := by
  obtain ⟨a0, len, cap, rfl⟩ := okWide_slice Tryz.underlying22 hv
  obtain ⟨fuel, hf⟩ := h
  rcases open_ints Tryz.underlying22 Tryz.underlying3 Tryz.cellsInt hf with ⟨hcs, hx⟩ | ⟨a, len', cap', zs, hcs, _, hl, hm, hz, hx, hcell, hwz⟩
  · simp [Value.cells] at hcs
    obtain ⟨rfl, rfl, rfl⟩ := hcs
    exact ⟨[], .inl ⟨none, 0, rfl, rfl, fun _ => rfl⟩, fun n hn => by simp at hn⟩
  · simp [Value.cells] at hcs
    obtain ⟨rfl, rfl, rfl⟩ := hcs
    simp only [if_true] at hz
    refine ⟨zs.take len, ?_, fun n hn => hwz n (List.mem_of_mem_take hn)⟩
    by_cases h0 : len = 0
    · subst h0
      exact .inl ⟨some a, cap, rfl, by simp, nofun⟩
    · have c0 := hcell 0 (by omega)
      obtain ⟨b, off, rfl, hc⟩ := ints_at hcell (by omega)
      have hb : b < W.heap.size := by
        have := hc 0 (by omega)
        exact cell_block_lt this
      have hll : (zs.take len).length = len := by simp; omega
      refine .inr ⟨b, off, cap, by rw [hll], by omega, hb, fun j x hj k u hu => ?_⟩
      rcases k with _ | k
      · simp at hu
        subst hu
        have hj2 := (List.getElem?_eq_some_iff.1 hj).1
        have := hc j (by omega)
        rw [List.getElem?_take] at hj
        split at hj
        · have e : zs.getD j 0 = x := by simp [List.getD, hj]
          rw [e] at this
          simpa using this
        · cases hj
      · simp at hu
end Go.Proofs.YtljmggemdkfbiaaGreat

/- A case of layer 9's laws as an argument: opened. -/
namespace Go.Proofs.YtljmggemdkfbiaaGreat
open Go.ChangeShapes Go.WideShapes Go.ChangeAt Go.RowKit Go.Joins
set_option linter.unusedVariables false

/-- A case as a value. -/
abbrev caseV (n : Int) (x root f g h : Value) (r z : Int) : Value := .agg #[.int .i64 n, x, root, f, g, h, .int .i64 r, .int .i64 z]
theorem array8 {α : Type} {cs : Array α} (h : cs.size = 8) : ∃ c0 c1 c2 c3 c4 c5 c6 c7, cs = #[c0, c1, c2, c3, c4, c5, c6, c7] := by
  obtain ⟨l⟩ := cs
  match l, h with
  | [c0, c1, c2, c3, c4, c5, c6, c7], _ => exact ⟨c0, c1, c2, c3, c4, c5, c6, c7, rfl⟩
theorem cellsCase : Tryz.prog.cellsOf 24 = 8 := by kernel_rfl
set_option maxRecDepth 1000000 in
theorem row_trod {H : Type} {enc : TypeId × Value → H} {W : World} {n : Nat} {v : Value} {y : DataW H × List MemPlace}
    (hf : DataW.trod enc Tryz.prog W 0 (fun _ => true) true n 22 [v] = some y) : ∃ ns : List Int, Rq 1 cI W v ns ∧ ∀ n ∈ ns, (Lit.int .i64 n).wf = true := by
  obtain ⟨d, p⟩ := y
  rcases open_ints Tryz.underlying22 Tryz.underlying3 Tryz.cellsInt hf with ⟨hcs, hx⟩ | ⟨a, len', cap', zs, hcs, _, hl, hm, hz, hx, hcell, hwz⟩
  · simp at hcs
    subst hcs
    exact ⟨[], .inl ⟨none, 0, rfl, rfl, fun _ => rfl⟩, fun n hn => by simp at hn⟩
  · simp at hcs
    subst hcs
    simp only [if_true] at hz
    refine ⟨zs.take len', ?_, fun n hn => hwz n (List.mem_of_mem_take hn)⟩
    by_cases h0 : len' = 0
    · subst h0
      exact .inl ⟨some a, cap', rfl, by simp, nofun⟩
    · have c0 := hcell 0 (by omega)
      obtain ⟨b, off, rfl, hc⟩ := ints_at hcell (by omega)
      have hb : b < W.heap.size := by
        have := hc 0 (by omega)
        exact cell_block_lt this
      have hll : (zs.take len').length = len' := by simp; omega
      refine .inr ⟨b, off, cap', by rw [hll], by omega, hb, fun j x hj k u hu => ?_⟩
      rcases k with _ | k
      · simp at hu
        subst hu
        have hj2 := (List.getElem?_eq_some_iff.1 hj).1
        have := hc j (by omega)
        rw [List.getElem?_take] at hj
        split at hj
        · have e : zs.getD j 0 = x := by simp [List.getD, hj]
          rw [e] at this
          simpa using this
        · cases hj
      · simp at hu
set_option maxRecDepth 1000000 in
theorem open_case {H : Type} {enc : TypeId × Value → H} {W : World} {b0 : Nat} {v : Value} {d : DataW H} {p : List MemPlace}
    (hv : Value.okWide Tryz.prog W .any b0 24 v) (h : DataW.Trod enc Tryz.prog W 0 (fun _ => true) true 24 v d p) :
    ∃ (n r z : Int) (x root f g h' : Value) (X Root F G H' : List Int), v = caseV n x root f g h' r z ∧ Rq 1 cI W x X ∧ Rq 1 cI W root Root ∧ Rq 1 cI W f F ∧ Rq 1 cI W g G ∧ Rq 1 cI W h' H' := by
  obtain ⟨cs, rfl, hsz⟩ := okWide_struct Tryz.underlying24 hv
  obtain ⟨c0, c1, c2, c3, c4, c5, c6, c7, rfl⟩ := array8 (hsz.trans cellsCase)
  obtain ⟨fuel, hf⟩ := h
  obtain ⟨xs, n, _, hxx, hl, hlen, hall⟩ := DataW.trod_struct Tryz.underlying24 hf
  match xs, hlen with
  | [y0, y1, y2, y3, y4, y5, y6, y7], _ =>
    have h0 := hall 0 _ rfl
    have h1 := hall 1 _ rfl
    have h2 := hall 2 _ rfl
    have h3 := hall 3 _ rfl
    have h4 := hall 4 _ rfl
    have h5 := hall 5 _ rfl
    have h6 := hall 6 _ rfl
    have h7 := hall 7 _ rfl
    simp only [Value.cells] at h0 h1 h2 h3 h4 h5 h6 h7
    simp at h0 h1 h2 h3 h4 h5 h6 h7
    have k1 : Tryz.prog.cellsOf 3 = 1 := by kernel_rfl
    have k2 : Tryz.prog.cellsOf 22 = 1 := by kernel_rfl
    rw [k1] at h0 h6 h7
    rw [k2] at h1 h2 h3 h4 h5
    simp only [List.take_succ_cons, List.take_zero] at h0 h1 h2 h3 h4 h5 h6 h7
    obtain ⟨n0, e0, _, _⟩ := DataW.trod_int Tryz.underlying3 h0
    obtain ⟨r0, e6, _, _⟩ := DataW.trod_int Tryz.underlying3 h6
    obtain ⟨z0, e7, _, _⟩ := DataW.trod_int Tryz.underlying3 h7
    obtain ⟨X, hX, _⟩ := row_trod h1
    obtain ⟨Root, hRoot, _⟩ := row_trod h2
    obtain ⟨F, hF, _⟩ := row_trod h3
    obtain ⟨G, hG, _⟩ := row_trod h4
    obtain ⟨H', hH, _⟩ := row_trod h5
    simp only [List.cons.injEq, and_true] at e0 e6 e7
    subst e0 e6 e7
    exact ⟨n0, r0, z0, c1, c2, c3, c4, c5, X, Root, F, G, H', rfl, hX, hRoot, hF, hG, hH⟩
end Go.Proofs.YtljmggemdkfbiaaGreat

/- A measurement of nothing changes no number of a triangle of points, and no X; the spread is r. Conditions: none (every input). -/
namespace Go.Proofs.YtljmggemdkfbiaaGreat
open Go.ChangeShapes Go.WideShapes Go.ChangeAt Go.RowKit
set_option linter.unusedVariables false

theorem own_RootStill : ownKnob Tryz.prog.godebug = none := by kernel_rfl
theorem laid_RootStill : laidOutB Tryz.prog = true := by kernel_rfl
set_option maxRecDepth 100000 in
theorem lifted_RootStill (os : Os) (started : os.Started) (H : Type) (enc : TypeId × Value → H) :
    ReturnsInHanded {} Tryz.checked os 7 .any (Rows.rootStillSpec.pre6 enc Tryz.prog Tryz.f7 Rows.rootStillRow.domain false) (Rows.rootStillSpec.post enc Tryz.prog Tryz.f7 false true false false) := by
  refine returnsInHanded_of_change (C := Tryz.checked) own_RootStill started (by kernel_rfl) Tryz.func7
    (ChangeSpec.witness6 (enc := enc) (C := Tryz.checked) false ⟨#[], #[.agg #[.int .i64 0, .slice none 0 0, .slice none 0 0, .slice none 0 0, .slice none 0 0, .slice none 0 0, .int .i64 0, .int .i64 0]], []⟩ 8 (by kernel_rfl) (by kernel_rfl) (by kernel_rfl) (by kernel_rfl)) ?_
  intro W base args ds gs before hval0 hW hcnd _
  have hval : ∀ (j : Nat) t v, Tryz.f7.params[j]? = some t → args[j]? = some v → Value.okWide Tryz.prog W .any base t v := hval0
  have hW' := hW
  obtain ⟨p, q, hA0, hV, rfl, hfz, hnd⟩ := hW
  have hA : DataW.TrodAll enc Tryz.prog W 0 (fun _ => true) true Tryz.f7.params.toList args.toList ds p := hA0
  rw [Tryz.params7] at hA hval
  obtain ⟨v0, vs0, d0, ds0, p0, q0, hargs, rfl, rfl, h0, r0⟩ := trodAll_cons hA
  obtain ⟨rfl, rfl, rfl⟩ := trodAll_nil r0
  obtain rfl : args = #[v0] := by cases args; simp_all
  obtain ⟨rfl, rfl⟩ := trodVars_none hV
  have hltA := fun x hx => hW'.lt x hx
  obtain ⟨n0, r0x, z0, x0, o0, f0, g0, k0, X0, O0, F0, G0, K0, e0, R0a, R0b, R0c, R0d, R0e⟩ := open_case (hval 0 24 v0 rfl rfl) h0
  subst e0
  clear hA0 hval0
  refine (walk_RootStill n0 r0x z0 x0 o0 f0 g0 k0 X0 O0 F0 G0 K0 W R0a R0b R0c R0d R0e).mono fun e W' ⟨he, bel⟩ => ?_
  subst he
  exact ⟨_, rfl, _, _, _, [], _, [], hW', trodAll_mk1 (shut_bool Tryz.underlying4 _), (trodAll_cons_mk (Below.trod laid_RootStill (by kernel_rfl) (of_decide_eq_true (by kernel_rfl)) h0 bel (fun x hx => by have := hltA x (by simp [hx]); simpa using this)) trodAll_mk0), rfl, Below.frame bel _, fun h => by cases h⟩

theorem proved_RootStill : Rows.RootStillSaid :=
  OpenClaim.holds_of_wide 7 Tryz.f7 rfl rfl rfl rfl rfl rfl rfl ⟨rfl, rfl, rfl, rfl, rfl⟩ rfl rfl rfl rfl rfl (by kernel_rfl) Tryz.func7 (by kernel_rfl)
    (of_decide_eq_true (by kernel_rfl)) (by unfold Func.isWrapper; first | (rw [if_pos (by decide +kernel)]; kernel_rfl) | (rw [if_neg (by decide +kernel)]; exact ⟨rfl, rfl⟩))
    (fun os started H enc _ => lifted_RootStill os started H enc)
#print axioms proved_RootStill
end Go.Proofs.YtljmggemdkfbiaaGreat
