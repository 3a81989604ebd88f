/- Contracts of the document's Clear, Turn, Square of layer 7, and of the laws' sides. Written by genTl.py. -/
import Derived.Test.YtljmggemdkfbiaaGreatMaR
namespace Go.Proofs.YtljmggemdkfbiaaGreat
open Go.RowKit
set_option linter.unusedSimpArgs false
set_option linter.unusedVariables false

/-- Cleared. -/
def clrI (f : Nat → Nat → Int) (i k : Nat) : Int := if k ≤ i then f i k else 0
/-- A square. -/
def sqI (n : Nat) (f : Nat → Nat → Int) : Nat → Nat → Int := mulI n f (fun i k => f k i)
theorem mulI_congr7 {M : Nat} {a b a' b' : Nat → Nat → Int} {i k : Nat} (h1 : ∀ j, j < M → a i j = a' i j) (h2 : ∀ j, j < M → b j k = b' j k) : mulI M a b i k = mulI M a' b' i k := by
  unfold mulI
  congr 1
  · exact List.map_congr_left fun j hj => h1 j (by simpa using hj)
  · exact List.map_congr_left fun j hj => h2 j (by simpa using hj)
theorem ofL_mk7 {R C : Nat} (f : Nat → Nat → Int) {i k : Nat} (hi : i < R) (hk : k < C) : ofL C (mk R C f) i k = f i k := by
  have h := ofL_get (R := R) (M := C) (ns := mk R C f) (by rw [mk_len]) hi hk
  rw [mk_get f hi hk] at h
  exact (Option.some.inj h).symm

set_option maxHeartbeats 2000000 in
theorem ref7Clear_any (pa : Option Addr) (na ca : Nat) (xa : List Int) (n : Nat) (w : World) (hd : Dim n n) (ha : Rq 1 cI w (.slice pa na ca) xa) (la : xa.length = n * n) (lna : na = n * n) :
    Calls Tryz.prog 11 #[.slice pa na ca, .int .i64 n] w fun e w' => ∃ p cap, e = .returned (.slice p (n * n) cap) ∧ Rw 1 cellsI w' (.slice p (n * n) cap) (mk n n (clrI (ofL n xa))) ∧ Bl w w' := by
  obtain ⟨i0, hi, hz0, hz1, hz2⟩ := info_parts Tryz.info_I
  have fm : Tryz.prog.follows .mixedOrders = true := by kernel_rfl
  have CA : ∀ i j, i < n → j < n → ∃ b o, pa = some ⟨b, o, none⟩ ∧ ∀ u, Bl w u → u.cell? ⟨b, o + (i * n + j), none⟩ = some (.int .i64 (ofL n xa i j)) := by
    intro i j hi' hj
    have hg := ofL_get la hi' hj
    rcases ha with ⟨_, _, _, h0, _⟩ | ⟨b, o, cc, e, _, hlt, HX⟩
    · rw [h0] at hg; simp at hg
    · cases e
      exact ⟨b, o, rfl, fun u hu => (bl_cell hu _ _ hlt).trans (cellI HX hg (wr := w))⟩
  have HCA := hideP CA
  have hR16 := hd.r2
  have HLA := hideP lna
  clear CA ha la lna
  generalize ofL n xa = fa at *
  go_enter Tryz.func11, Tryz.ntmps11
  go_wp2_with fail
  go_loopw [5, 6] (fun v i wr => ∃ j : Nat, i = .int .i64 j ∧ j ≤ n ∧ wr.ownsRow w.heap.size 3 1 v (mk j n (clrI fa)).length ((mk j n (clrI fa)).flatMap cellsI) ∧ Bl w wr) (fun _ i _ => n - (intOf i).toNat)
  case atStart => exact ⟨0, rfl, Nat.zero_le _, World.ownsRow_nil _ _ _ _, Bl.refl _⟩
  case round =>
    obtain ⟨j, rfl, hj, hown, hB⟩ := hrel
    by_cases hlt : j < n
    · go_wp2_with fail
      go_loopw [5, 7] (fun v i wr => ∃ k : Nat, i = .int .i64 k ∧ k ≤ n ∧ wr.ownsRow w.heap.size 3 1 v (mk j n (clrI fa) ++ rowM k (clrI fa) j).length ((mk j n (clrI fa) ++ rowM k (clrI fa) j).flatMap cellsI) ∧ Bl w wr) (fun _ i _ => n - (intOf i).toNat)
      case atStart => exact ⟨0, rfl, Nat.zero_le _, by simpa [rowM] using hown, hB⟩
      case round =>
        clear hown hB
        obtain ⟨k, rfl, hk, hown, hB⟩ := hrel
        by_cases hlt2 : k < n
        · have hlen : (mk j n (clrI fa) ++ rowM k (clrI fa) j).length ≤ 256 := by
            have h1 : j * n + k < n * n := mk_idx hlt hlt2
            have h2 : n * n ≤ 256 := Nat.mul_le_mul hR16 hR16
            rw [List.length_append, mk_len, rowM_len]
            omega
          have HT := hideP (show mk j n (clrI fa) ++ rowM (k + 1) (clrI fa) j = (mk j n (clrI fa) ++ rowM k (clrI fa) j) ++ [(clrI fa) j k] by rw [rowM_succ, List.append_assoc])
          by_cases hki : k ≤ j
          · have hki' : ¬ ((k : Int) > j) := by omega
            obtain ⟨x, hx⟩ : ∃ x, x = fa j k := ⟨_, rfl⟩
            have HT2 := hideP (show (mk j n (clrI fa) ++ rowM k (clrI fa) j) ++ [(clrI fa) j k] = (mk j n (clrI fa) ++ rowM k (clrI fa) j) ++ [x] by rw [hx, show clrI fa j k = fa j k from if_pos hki])
            have HT3 := hideP (HT.out.trans HT2.out)
            obtain ⟨b, o, rfl, CX⟩ := HCA.out j k hlt hlt2
            obtain ⟨a1, q1, e1, e2, hq1, hq3, hq5, hq6⟩ := place hd hlt hlt2
            rw [← e2] at CX
            rw [← HLA.out] at hq5
            have cx := CX wr hB
            rw [← hx] at cx
            clear CX e1 e2
            clear HT HT2
            have HX := hideP hx
            clear hx
            generalize mk j n (clrI fa) ++ rowM k (clrI fa) j = ys at *
            go_wp2_with (at_builtin; refine wpList_append_own _ rfl _ _ 22 rfl w.heap.size 3 i0 (.int .i64 0) 1 8 Tryz.underlying22 hi hz0 hz1 hz2 rfl (by decide) _ _ _ rfl (hown.alloc _) ⟨_, 0, none⟩ 1 1 (cellsI x) rfl rfl (newI_cells _ _ _) (oneI_cells _) (by unfold maxLen; omega) (by omega) (by have := hB.size; simp; omega) ?_; intro v' w1 hown' hgrow _)
            have R1 := own_more (ys := [x]) (hB.alloc _) (Nat.le_refl _) (hown.alloc _) (by simpa using hown') rfl hgrow
            clear hown hown' hgrow
            go_wp2
            go_roundw
            case rel => exact ⟨k + 1, by simp, hlt2, by rw [HT3.out]; exact R1.2, R1.1⟩
            case measure => simp [intOf]; omega
          · have hki' : (k : Int) > j := by omega
            obtain ⟨x, hx⟩ : ∃ x, x = (0 : Int) := ⟨_, rfl⟩
            have HT2 := hideP (show (mk j n (clrI fa) ++ rowM k (clrI fa) j) ++ [(clrI fa) j k] = (mk j n (clrI fa) ++ rowM k (clrI fa) j) ++ [x] by rw [hx, show clrI fa j k = 0 from if_neg hki])
            have HT3 := hideP (HT.out.trans HT2.out)
  
            clear HT HT2
            subst hx
            generalize mk j n (clrI fa) ++ rowM k (clrI fa) j = ys at *
            go_wp2_with (at_builtin; refine wpList_append_own _ rfl _ _ 22 rfl w.heap.size 3 i0 (.int .i64 0) 1 8 Tryz.underlying22 hi hz0 hz1 hz2 rfl (by decide) _ _ _ rfl (hown.alloc _) ⟨_, 0, none⟩ 1 1 (cellsI (0 : Int)) rfl rfl (newI_cells _ _ _) (oneI_cells _) (by unfold maxLen; omega) (by omega) (by have := hB.size; simp; omega) ?_; intro v' w1 hown' hgrow _)
            have R1 := own_more (ys := [(0 : Int)]) (hB.alloc _) (Nat.le_refl _) (hown.alloc _) (by simpa using hown') rfl hgrow
            clear hown hown' hgrow
            go_wp2
            go_roundw
            case rel => exact ⟨k + 1, by simp, hlt2, by rw [HT3.out]; exact R1.2, R1.1⟩
            case measure => simp [intOf]; omega
        · obtain rfl : k = n := by omega
          have HT := hideP (mk_succ j k (clrI fa))
          go_wp2_with fail
          go_roundw
          case rel => exact ⟨j + 1, by simp, hlt, by rw [HT.out]; exact hown, hB⟩
          case measure => simp [intOf]; omega
    · obtain rfl : j = n := by omega
      have RW := hideP (Rw.of_own cellsI_len hown)
      obtain ⟨p', cap', hv, _, _⟩ := RW.out.cut
      rw [mk_len] at hv
      clear hown
      subst hv
      go_wp2
      go_ret
      exact ⟨p', cap', rfl, RW.out, hB⟩

set_option maxHeartbeats 2000000 in
theorem ref7Turn_any (pa : Option Addr) (na ca : Nat) (xa : List Int) (n : Nat) (w : World) (hd : Dim n n) (ha : Rq 1 cI w (.slice pa na ca) xa) (la : xa.length = n * n) (lna : na = n * n) :
    Calls Tryz.prog 70 #[.slice pa na ca, .int .i64 n] w fun e w' => ∃ p cap, e = .returned (.slice p (n * n) cap) ∧ Rw 1 cellsI w' (.slice p (n * n) cap) (mk n n (fun i k => ofL n xa k i)) ∧ Bl w w' := by
  obtain ⟨i0, hi, hz0, hz1, hz2⟩ := info_parts Tryz.info_I
  have fm : Tryz.prog.follows .mixedOrders = true := by kernel_rfl
  have CA : ∀ i j, i < n → j < n → ∃ b o, pa = some ⟨b, o, none⟩ ∧ ∀ u, Bl w u → u.cell? ⟨b, o + (i * n + j), none⟩ = some (.int .i64 (ofL n xa i j)) := by
    intro i j hi' hj
    have hg := ofL_get la hi' hj
    rcases ha with ⟨_, _, _, h0, _⟩ | ⟨b, o, cc, e, _, hlt, HX⟩
    · rw [h0] at hg; simp at hg
    · cases e
      exact ⟨b, o, rfl, fun u hu => (bl_cell hu _ _ hlt).trans (cellI HX hg (wr := w))⟩
  have HCA := hideP CA
  have hR16 := hd.r2
  have HLA := hideP lna
  clear CA ha la lna
  generalize ofL n xa = fa at *
  go_enter Tryz.func70, Tryz.ntmps70
  go_wp2_with fail
  go_loopw [5, 6] (fun v i wr => ∃ j : Nat, i = .int .i64 j ∧ j ≤ n ∧ wr.ownsRow w.heap.size 3 1 v (mk j n (fun i k => fa k i)).length ((mk j n (fun i k => fa k i)).flatMap cellsI) ∧ Bl w wr) (fun _ i _ => n - (intOf i).toNat)
  case atStart => exact ⟨0, rfl, Nat.zero_le _, World.ownsRow_nil _ _ _ _, Bl.refl _⟩
  case round =>
    obtain ⟨j, rfl, hj, hown, hB⟩ := hrel
    by_cases hlt : j < n
    · go_wp2_with fail
      go_loopw [5, 7] (fun v i wr => ∃ k : Nat, i = .int .i64 k ∧ k ≤ n ∧ wr.ownsRow w.heap.size 3 1 v (mk j n (fun i k => fa k i) ++ rowM k (fun i k => fa k i) j).length ((mk j n (fun i k => fa k i) ++ rowM k (fun i k => fa k i) j).flatMap cellsI) ∧ Bl w wr) (fun _ i _ => n - (intOf i).toNat)
      case atStart => exact ⟨0, rfl, Nat.zero_le _, by simpa [rowM] using hown, hB⟩
      case round =>
        clear hown hB
        obtain ⟨k, rfl, hk, hown, hB⟩ := hrel
        by_cases hlt2 : k < n
        · have hlen : (mk j n (fun i k => fa k i) ++ rowM k (fun i k => fa k i) j).length ≤ 256 := by
            have h1 : j * n + k < n * n := mk_idx hlt hlt2
            have h2 : n * n ≤ 256 := Nat.mul_le_mul hR16 hR16
            rw [List.length_append, mk_len, rowM_len]
            omega
          have HT := hideP (show mk j n (fun i k => fa k i) ++ rowM (k + 1) (fun i k => fa k i) j = (mk j n (fun i k => fa k i) ++ rowM k (fun i k => fa k i) j) ++ [(fun i k => fa k i) j k] by rw [rowM_succ, List.append_assoc])
          obtain ⟨x, hx⟩ : ∃ x, x = fa k j := ⟨_, rfl⟩
          have HT2 := hideP (show (mk j n (fun i k => fa k i) ++ rowM k (fun i k => fa k i) j) ++ [(fun i k => fa k i) j k] = (mk j n (fun i k => fa k i) ++ rowM k (fun i k => fa k i) j) ++ [x] by rw [hx])
          have HT3 := hideP (HT.out.trans HT2.out)
          obtain ⟨b, o, rfl, CX⟩ := HCA.out k j hlt2 hlt
          obtain ⟨a1, q1, e1, e2, hq1, hq3, hq5, hq6⟩ := place hd hlt2 hlt
          rw [← e2] at CX
          rw [← HLA.out] at hq5
          have cx := CX wr hB
          rw [← hx] at cx
          clear CX e1 e2
          clear HT HT2
          have HX := hideP hx
          clear hx
          generalize mk j n (fun i k => fa k i) ++ rowM k (fun i k => fa k i) j = ys at *
          go_wp2_with (at_builtin; refine wpList_append_own _ rfl _ _ 22 rfl w.heap.size 3 i0 (.int .i64 0) 1 8 Tryz.underlying22 hi hz0 hz1 hz2 rfl (by decide) _ _ _ rfl (hown.alloc _) ⟨_, 0, none⟩ 1 1 (cellsI x) rfl rfl (newI_cells _ _ _) (oneI_cells _) (by unfold maxLen; omega) (by omega) (by have := hB.size; simp; omega) ?_; intro v' w1 hown' hgrow _)
          have R1 := own_more (ys := [x]) (hB.alloc _) (Nat.le_refl _) (hown.alloc _) (by simpa using hown') rfl hgrow
          clear hown hown' hgrow
          go_wp2
          go_roundw
          case rel => exact ⟨k + 1, by simp, hlt2, by rw [HT3.out]; exact R1.2, R1.1⟩
          case measure => simp [intOf]; omega
        · obtain rfl : k = n := by omega
          have HT := hideP (mk_succ j k (fun i k => fa k i))
          go_wp2_with fail
          go_roundw
          case rel => exact ⟨j + 1, by simp, hlt, by rw [HT.out]; exact hown, hB⟩
          case measure => simp [intOf]; omega
    · obtain rfl : j = n := by omega
      have RW := hideP (Rw.of_own cellsI_len hown)
      obtain ⟨p', cap', hv, _, _⟩ := RW.out.cut
      rw [mk_len] at hv
      clear hown
      subst hv
      go_wp2
      go_ret
      exact ⟨p', cap', rfl, RW.out, hB⟩

set_option maxHeartbeats 1000000 in
theorem ref7Square_any (pa : Option Addr) (na ca : Nat) (xa : List Int) (n : Nat) (w : World) (hd : Dim n n) (ha : Rq 1 cI w (.slice pa na ca) xa) (la : xa.length = n * n) (lna : na = n * n) (sa : Sml 100 xa) :
    Calls Tryz.prog 32 #[.slice pa na ca, .int .i64 n] w fun e w' => ∃ p cap, e = .returned (.slice p (n * n) cap) ∧ Rw 1 cellsI w' (.slice p (n * n) cap) (mk n n (sqI n (ofL n xa))) ∧ Bl w w' := by
  have T := hideP (ref7Turn_any pa na ca xa n w hd ha la lna)
  have st : Sml 100 (mk n n (fun i k => ofL n xa k i)) := by
    intro x hx
    obtain ⟨i, hi, hx⟩ := List.mem_flatMap.1 hx
    obtain ⟨k, hk, rfl⟩ := List.mem_map.1 hx
    exact ofL_sml la sa k i (by simpa using hk) (by simpa using hi)
  obtain ⟨xt, hxt⟩ : ∃ xt, xt = mk n n (fun i k => ofL n xa k i) := ⟨_, rfl⟩
  have hlt : xt.length = n * n := by rw [hxt, mk_len]
  rw [← hxt] at T st
  have M : ∀ p cap (u : World), Bl w u → Rw 1 cellsI u (.slice p (n * n) cap) xt → Calls Tryz.prog 69 #[.slice pa na ca, .int .i64 n, .int .i64 n, .slice p (n * n) cap, .int .i64 n] u fun e w' => ∃ p cap, e = .returned (.slice p (n * n) cap) ∧ Rw 1 cellsI w' (.slice p (n * n) cap) (mk n n (mulI n (ofL n xa) (ofL n xt))) ∧ Bl u w' := fun p cap (u : World) (hu : Bl w u) (hr : Rw 1 cellsI u (.slice p (n * n) cap) xt) => ref6Mul_any pa p na ca (n * n) cap xa xt n n n u hd hd (ha.later hu) hr.q la hlt lna rfl sa st
  have M := hideP M
  have HE := hideP (show mk n n (mulI n (ofL n xa) (ofL n xt)) = mk n n (sqI n (ofL n xa)) from
    mk_congr fun i k hi hk => mulI_congr7 (fun _ _ => rfl) (fun j hj => by rw [hxt]; exact ofL_mk7 _ hj hk))
  clear ha la sa st hxt hlt lna
  go_enter Tryz.func32, Tryz.ntmps32
  go_wp2_with fail
  refine T.out.mono ?_
  rintro e w1 ⟨p, cap, rfl, hr, h1⟩
  go_wp2_with fail
  refine (M.out _ _ _ h1 hr).mono ?_
  rintro e w2 ⟨p2, cap2, rfl, hr2, h2⟩
  rw [HE.out] at hr2
  have HR := hideP hr2
  clear hr hr2 T M
  go_wp2
  go_ret
  exact ⟨p2, cap2, rfl, HR.out, h1.trans h2⟩
/-- sides: what it tells. -/
def SidesP (ns : List Int) (n : Int) (w : World) (e : Ending) (w' : World) : Prop := ∃ b, e = .returned (.bool b) ∧ (b = true → 1 ≤ n ∧ n ≤ 5 ∧ (ns.length : Int) = n * n ∧ Sml 100 ns) ∧ w' = w
theorem sidesP {ns : List Int} {n : Int} {w : World} (b : Bool) (h : b = true → 1 ≤ n ∧ n ≤ 5 ∧ (ns.length : Int) = n * n ∧ Sml 100 ns) : SidesP ns n w (.returned (.bool b)) w := ⟨b, rfl, h, rfl⟩
end Go.Proofs.YtljmggemdkfbiaaGreat
