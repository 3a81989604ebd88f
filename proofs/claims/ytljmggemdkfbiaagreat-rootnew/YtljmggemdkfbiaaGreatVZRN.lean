/- A new state's triangle is cleared, and its cover is the square. Conditions: none (every input). -/
import Derived.Test.YtljmggemdkfbiaaGreatVA
import Derived.Test.YtljmggemdkfbiaaGreatVH
import Derived.Test.YtljmggemdkfbiaaGreatVD
import Derived.Test.YtljmggemdkfbiaaGreatVB
import Derived.Laws.EntriesVeiled
import Derived.Test.YtljmggemdkfbiaaGreatVJ
import Derived.ProofKit
import Derived.OpenShut
import Derived.Carry
/- Contracts of the document's Clear, Turn, Square of layer 7, and of the laws' sides. Written by genTl.py. -/
namespace Go.Proofs.YtljmggemdkfbiaaGreat
open Go.RowKit
set_option linter.unusedSimpArgs false
set_option linter.unusedVariables false

/-- Cleared. -/
def clrI (f : Nat → Nat → Int) (i k : Nat) : Int := if k ≤ i then f i k else 0
/-- A square. -/
def sqI (n : Nat) (f : Nat → Nat → Int) : Nat → Nat → Int := mulI n f (fun i k => f k i)
theorem mulI_congr7 {M : Nat} {a b a' b' : Nat → Nat → Int} {i k : Nat} (h1 : ∀ j, j < M → a i j = a' i j) (h2 : ∀ j, j < M → b j k = b' j k) : mulI M a b i k = mulI M a' b' i k := by
  unfold mulI
  congr 1
  · exact List.map_congr_left fun j hj => h1 j (by simpa using hj)
  · exact List.map_congr_left fun j hj => h2 j (by simpa using hj)
theorem ofL_mk7 {R C : Nat} (f : Nat → Nat → Int) {i k : Nat} (hi : i < R) (hk : k < C) : ofL C (mk R C f) i k = f i k := by
  have h := ofL_get (R := R) (M := C) (ns := mk R C f) (by rw [mk_len]) hi hk
  rw [mk_get f hi hk] at h
  exact (Option.some.inj h).symm

set_option maxHeartbeats 2000000 in
theorem ref7Clear_any (pa : Option Addr) (na ca : Nat) (xa : List Int) (n : Nat) (w : World) (hd : Dim n n) (ha : Rq 1 cI w (.slice pa na ca) xa) (la : xa.length = n * n) (lna : na = n * n) :
    Calls Tryz.prog 11 #[.slice pa na ca, .int .i64 n] w fun e w' => ∃ p cap, e = .returned (.slice p (n * n) cap) ∧ Rw 1 cellsI w' (.slice p (n * n) cap) (mk n n (clrI (ofL n xa))) ∧ Bl w w' := by
  obtain ⟨i0, hi, hz0, hz1, hz2⟩ := info_parts Tryz.info_I
  have fm : Tryz.prog.follows .mixedOrders = true := by kernel_rfl
  have CA : ∀ i j, i < n → j < n → ∃ b o, pa = some ⟨b, o, none⟩ ∧ ∀ u, Bl w u → u.cell? ⟨b, o + (i * n + j), none⟩ = some (.int .i64 (ofL n xa i j)) := by
    intro i j hi' hj
    have hg := ofL_get la hi' hj
    rcases ha with ⟨_, _, _, h0, _⟩ | ⟨b, o, cc, e, _, hlt, HX⟩
    · rw [h0] at hg; simp at hg
    · cases e
      exact ⟨b, o, rfl, fun u hu => (bl_cell hu _ _ hlt).trans (cellI HX hg (wr := w))⟩
  have HCA := hideP CA
  have hR16 := hd.r2
  have HLA := hideP lna
  clear CA ha la lna
  generalize ofL n xa = fa at *
  go_enter Tryz.func11, Tryz.ntmps11
  go_wp2_with fail
  go_loopw [5, 6] (fun v i wr => ∃ j : Nat, i = .int .i64 j ∧ j ≤ n ∧ wr.ownsRow w.heap.size 3 1 v (mk j n (clrI fa)).length ((mk j n (clrI fa)).flatMap cellsI) ∧ Bl w wr) (fun _ i _ => n - (intOf i).toNat)
  case atStart => exact ⟨0, rfl, Nat.zero_le _, World.ownsRow_nil _ _ _ _, Bl.refl _⟩
  case round =>
    obtain ⟨j, rfl, hj, hown, hB⟩ := hrel
    by_cases hlt : j < n
    · go_wp2_with fail
      go_loopw [5, 7] (fun v i wr => ∃ k : Nat, i = .int .i64 k ∧ k ≤ n ∧ wr.ownsRow w.heap.size 3 1 v (mk j n (clrI fa) ++ rowM k (clrI fa) j).length ((mk j n (clrI fa) ++ rowM k (clrI fa) j).flatMap cellsI) ∧ Bl w wr) (fun _ i _ => n - (intOf i).toNat)
      case atStart => exact ⟨0, rfl, Nat.zero_le _, by simpa [rowM] using hown, hB⟩
      case round =>
        clear hown hB
        obtain ⟨k, rfl, hk, hown, hB⟩ := hrel
        by_cases hlt2 : k < n
        · have hlen : (mk j n (clrI fa) ++ rowM k (clrI fa) j).length ≤ 256 := by
            have h1 : j * n + k < n * n := mk_idx hlt hlt2
            have h2 : n * n ≤ 256 := Nat.mul_le_mul hR16 hR16
            rw [List.length_append, mk_len, rowM_len]
            omega
          have HT := hideP (show mk j n (clrI fa) ++ rowM (k + 1) (clrI fa) j = (mk j n (clrI fa) ++ rowM k (clrI fa) j) ++ [(clrI fa) j k] by rw [rowM_succ, List.append_assoc])
          by_cases hki : k ≤ j
          · have hki' : ¬ ((k : Int) > j) := by omega
            obtain ⟨x, hx⟩ : ∃ x, x = fa j k := ⟨_, rfl⟩
            have HT2 := hideP (show (mk j n (clrI fa) ++ rowM k (clrI fa) j) ++ [(clrI fa) j k] = (mk j n (clrI fa) ++ rowM k (clrI fa) j) ++ [x] by rw [hx, show clrI fa j k = fa j k from if_pos hki])
            have HT3 := hideP (HT.out.trans HT2.out)
            obtain ⟨b, o, rfl, CX⟩ := HCA.out j k hlt hlt2
            obtain ⟨a1, q1, e1, e2, hq1, hq3, hq5, hq6⟩ := place hd hlt hlt2
            rw [← e2] at CX
            rw [← HLA.out] at hq5
            have cx := CX wr hB
            rw [← hx] at cx
            clear CX e1 e2
            clear HT HT2
            have HX := hideP hx
            clear hx
            generalize mk j n (clrI fa) ++ rowM k (clrI fa) j = ys at *
            go_wp2_with (at_builtin; refine wpList_append_own _ rfl _ _ 22 rfl w.heap.size 3 i0 (.int .i64 0) 1 8 Tryz.underlying22 hi hz0 hz1 hz2 rfl (by decide) _ _ _ rfl (hown.alloc _) ⟨_, 0, none⟩ 1 1 (cellsI x) rfl rfl (newI_cells _ _ _) (oneI_cells _) (by unfold maxLen; omega) (by omega) (by have := hB.size; simp; omega) ?_; intro v' w1 hown' hgrow _)
            have R1 := own_more (ys := [x]) (hB.alloc _) (Nat.le_refl _) (hown.alloc _) (by simpa using hown') rfl hgrow
            clear hown hown' hgrow
            go_wp2
            go_roundw
            case rel => exact ⟨k + 1, by simp, hlt2, by rw [HT3.out]; exact R1.2, R1.1⟩
            case measure => simp [intOf]; omega
          · have hki' : (k : Int) > j := by omega
            obtain ⟨x, hx⟩ : ∃ x, x = (0 : Int) := ⟨_, rfl⟩
            have HT2 := hideP (show (mk j n (clrI fa) ++ rowM k (clrI fa) j) ++ [(clrI fa) j k] = (mk j n (clrI fa) ++ rowM k (clrI fa) j) ++ [x] by rw [hx, show clrI fa j k = 0 from if_neg hki])
            have HT3 := hideP (HT.out.trans HT2.out)
  
            clear HT HT2
            subst hx
            generalize mk j n (clrI fa) ++ rowM k (clrI fa) j = ys at *
            go_wp2_with (at_builtin; refine wpList_append_own _ rfl _ _ 22 rfl w.heap.size 3 i0 (.int .i64 0) 1 8 Tryz.underlying22 hi hz0 hz1 hz2 rfl (by decide) _ _ _ rfl (hown.alloc _) ⟨_, 0, none⟩ 1 1 (cellsI (0 : Int)) rfl rfl (newI_cells _ _ _) (oneI_cells _) (by unfold maxLen; omega) (by omega) (by have := hB.size; simp; omega) ?_; intro v' w1 hown' hgrow _)
            have R1 := own_more (ys := [(0 : Int)]) (hB.alloc _) (Nat.le_refl _) (hown.alloc _) (by simpa using hown') rfl hgrow
            clear hown hown' hgrow
            go_wp2
            go_roundw
            case rel => exact ⟨k + 1, by simp, hlt2, by rw [HT3.out]; exact R1.2, R1.1⟩
            case measure => simp [intOf]; omega
        · obtain rfl : k = n := by omega
          have HT := hideP (mk_succ j k (clrI fa))
          go_wp2_with fail
          go_roundw
          case rel => exact ⟨j + 1, by simp, hlt, by rw [HT.out]; exact hown, hB⟩
          case measure => simp [intOf]; omega
    · obtain rfl : j = n := by omega
      have RW := hideP (Rw.of_own cellsI_len hown)
      obtain ⟨p', cap', hv, _, _⟩ := RW.out.cut
      rw [mk_len] at hv
      clear hown
      subst hv
      go_wp2
      go_ret
      exact ⟨p', cap', rfl, RW.out, hB⟩

set_option maxHeartbeats 2000000 in
theorem ref7Turn_any (pa : Option Addr) (na ca : Nat) (xa : List Int) (n : Nat) (w : World) (hd : Dim n n) (ha : Rq 1 cI w (.slice pa na ca) xa) (la : xa.length = n * n) (lna : na = n * n) :
    Calls Tryz.prog 70 #[.slice pa na ca, .int .i64 n] w fun e w' => ∃ p cap, e = .returned (.slice p (n * n) cap) ∧ Rw 1 cellsI w' (.slice p (n * n) cap) (mk n n (fun i k => ofL n xa k i)) ∧ Bl w w' := by
  obtain ⟨i0, hi, hz0, hz1, hz2⟩ := info_parts Tryz.info_I
  have fm : Tryz.prog.follows .mixedOrders = true := by kernel_rfl
  have CA : ∀ i j, i < n → j < n → ∃ b o, pa = some ⟨b, o, none⟩ ∧ ∀ u, Bl w u → u.cell? ⟨b, o + (i * n + j), none⟩ = some (.int .i64 (ofL n xa i j)) := by
    intro i j hi' hj
    have hg := ofL_get la hi' hj
    rcases ha with ⟨_, _, _, h0, _⟩ | ⟨b, o, cc, e, _, hlt, HX⟩
    · rw [h0] at hg; simp at hg
    · cases e
      exact ⟨b, o, rfl, fun u hu => (bl_cell hu _ _ hlt).trans (cellI HX hg (wr := w))⟩
  have HCA := hideP CA
  have hR16 := hd.r2
  have HLA := hideP lna
  clear CA ha la lna
  generalize ofL n xa = fa at *
  go_enter Tryz.func70, Tryz.ntmps70
  go_wp2_with fail
  go_loopw [5, 6] (fun v i wr => ∃ j : Nat, i = .int .i64 j ∧ j ≤ n ∧ wr.ownsRow w.heap.size 3 1 v (mk j n (fun i k => fa k i)).length ((mk j n (fun i k => fa k i)).flatMap cellsI) ∧ Bl w wr) (fun _ i _ => n - (intOf i).toNat)
  case atStart => exact ⟨0, rfl, Nat.zero_le _, World.ownsRow_nil _ _ _ _, Bl.refl _⟩
  case round =>
    obtain ⟨j, rfl, hj, hown, hB⟩ := hrel
    by_cases hlt : j < n
    · go_wp2_with fail
      go_loopw [5, 7] (fun v i wr => ∃ k : Nat, i = .int .i64 k ∧ k ≤ n ∧ wr.ownsRow w.heap.size 3 1 v (mk j n (fun i k => fa k i) ++ rowM k (fun i k => fa k i) j).length ((mk j n (fun i k => fa k i) ++ rowM k (fun i k => fa k i) j).flatMap cellsI) ∧ Bl w wr) (fun _ i _ => n - (intOf i).toNat)
      case atStart => exact ⟨0, rfl, Nat.zero_le _, by simpa [rowM] using hown, hB⟩
      case round =>
        clear hown hB
        obtain ⟨k, rfl, hk, hown, hB⟩ := hrel
        by_cases hlt2 : k < n
        · have hlen : (mk j n (fun i k => fa k i) ++ rowM k (fun i k => fa k i) j).length ≤ 256 := by
            have h1 : j * n + k < n * n := mk_idx hlt hlt2
            have h2 : n * n ≤ 256 := Nat.mul_le_mul hR16 hR16
            rw [List.length_append, mk_len, rowM_len]
            omega
          have HT := hideP (show mk j n (fun i k => fa k i) ++ rowM (k + 1) (fun i k => fa k i) j = (mk j n (fun i k => fa k i) ++ rowM k (fun i k => fa k i) j) ++ [(fun i k => fa k i) j k] by rw [rowM_succ, List.append_assoc])
          obtain ⟨x, hx⟩ : ∃ x, x = fa k j := ⟨_, rfl⟩
          have HT2 := hideP (show (mk j n (fun i k => fa k i) ++ rowM k (fun i k => fa k i) j) ++ [(fun i k => fa k i) j k] = (mk j n (fun i k => fa k i) ++ rowM k (fun i k => fa k i) j) ++ [x] by rw [hx])
          have HT3 := hideP (HT.out.trans HT2.out)
          obtain ⟨b, o, rfl, CX⟩ := HCA.out k j hlt2 hlt
          obtain ⟨a1, q1, e1, e2, hq1, hq3, hq5, hq6⟩ := place hd hlt2 hlt
          rw [← e2] at CX
          rw [← HLA.out] at hq5
          have cx := CX wr hB
          rw [← hx] at cx
          clear CX e1 e2
          clear HT HT2
          have HX := hideP hx
          clear hx
          generalize mk j n (fun i k => fa k i) ++ rowM k (fun i k => fa k i) j = ys at *
          go_wp2_with (at_builtin; refine wpList_append_own _ rfl _ _ 22 rfl w.heap.size 3 i0 (.int .i64 0) 1 8 Tryz.underlying22 hi hz0 hz1 hz2 rfl (by decide) _ _ _ rfl (hown.alloc _) ⟨_, 0, none⟩ 1 1 (cellsI x) rfl rfl (newI_cells _ _ _) (oneI_cells _) (by unfold maxLen; omega) (by omega) (by have := hB.size; simp; omega) ?_; intro v' w1 hown' hgrow _)
          have R1 := own_more (ys := [x]) (hB.alloc _) (Nat.le_refl _) (hown.alloc _) (by simpa using hown') rfl hgrow
          clear hown hown' hgrow
          go_wp2
          go_roundw
          case rel => exact ⟨k + 1, by simp, hlt2, by rw [HT3.out]; exact R1.2, R1.1⟩
          case measure => simp [intOf]; omega
        · obtain rfl : k = n := by omega
          have HT := hideP (mk_succ j k (fun i k => fa k i))
          go_wp2_with fail
          go_roundw
          case rel => exact ⟨j + 1, by simp, hlt, by rw [HT.out]; exact hown, hB⟩
          case measure => simp [intOf]; omega
    · obtain rfl : j = n := by omega
      have RW := hideP (Rw.of_own cellsI_len hown)
      obtain ⟨p', cap', hv, _, _⟩ := RW.out.cut
      rw [mk_len] at hv
      clear hown
      subst hv
      go_wp2
      go_ret
      exact ⟨p', cap', rfl, RW.out, hB⟩

set_option maxHeartbeats 1000000 in
theorem ref7Square_any (pa : Option Addr) (na ca : Nat) (xa : List Int) (n : Nat) (w : World) (hd : Dim n n) (ha : Rq 1 cI w (.slice pa na ca) xa) (la : xa.length = n * n) (lna : na = n * n) (sa : Sml 100 xa) :
    Calls Tryz.prog 32 #[.slice pa na ca, .int .i64 n] w fun e w' => ∃ p cap, e = .returned (.slice p (n * n) cap) ∧ Rw 1 cellsI w' (.slice p (n * n) cap) (mk n n (sqI n (ofL n xa))) ∧ Bl w w' := by
  have T := hideP (ref7Turn_any pa na ca xa n w hd ha la lna)
  have st : Sml 100 (mk n n (fun i k => ofL n xa k i)) := by
    intro x hx
    obtain ⟨i, hi, hx⟩ := List.mem_flatMap.1 hx
    obtain ⟨k, hk, rfl⟩ := List.mem_map.1 hx
    exact ofL_sml la sa k i (by simpa using hk) (by simpa using hi)
  obtain ⟨xt, hxt⟩ : ∃ xt, xt = mk n n (fun i k => ofL n xa k i) := ⟨_, rfl⟩
  have hlt : xt.length = n * n := by rw [hxt, mk_len]
  rw [← hxt] at T st
  have M : ∀ p cap (u : World), Bl w u → Rw 1 cellsI u (.slice p (n * n) cap) xt → Calls Tryz.prog 69 #[.slice pa na ca, .int .i64 n, .int .i64 n, .slice p (n * n) cap, .int .i64 n] u fun e w' => ∃ p cap, e = .returned (.slice p (n * n) cap) ∧ Rw 1 cellsI w' (.slice p (n * n) cap) (mk n n (mulI n (ofL n xa) (ofL n xt))) ∧ Bl u w' := fun p cap (u : World) (hu : Bl w u) (hr : Rw 1 cellsI u (.slice p (n * n) cap) xt) => ref6Mul_any pa p na ca (n * n) cap xa xt n n n u hd hd (ha.later hu) hr.q la hlt lna rfl sa st
  have M := hideP M
  have HE := hideP (show mk n n (mulI n (ofL n xa) (ofL n xt)) = mk n n (sqI n (ofL n xa)) from
    mk_congr fun i k hi hk => mulI_congr7 (fun _ _ => rfl) (fun j hj => by rw [hxt]; exact ofL_mk7 _ hj hk))
  clear ha la sa st hxt hlt lna
  go_enter Tryz.func32, Tryz.ntmps32
  go_wp2_with fail
  refine T.out.mono ?_
  rintro e w1 ⟨p, cap, rfl, hr, h1⟩
  go_wp2_with fail
  refine (M.out _ _ _ h1 hr).mono ?_
  rintro e w2 ⟨p2, cap2, rfl, hr2, h2⟩
  rw [HE.out] at hr2
  have HR := hideP hr2
  clear hr hr2 T M
  go_wp2
  go_ret
  exact ⟨p2, cap2, rfl, HR.out, h1.trans h2⟩
end Go.Proofs.YtljmggemdkfbiaaGreat

/- Root, as the program fills it, number by number, is the document's, column by column; of a square of whole numbers (layer 7). -/
namespace Go.Proofs.YtljmggemdkfbiaaGreat
open Go.RowKit
set_option linter.unusedSimpArgs false
set_option linter.unusedVariables false

theorem clrI_sm {A : Int} {n : Nat} {f : Nat → Nat → Int} (hA : 0 ≤ A) (h : Sm2 A n n f) : Sm2 A n n (clrI f) := fun i k hi hk => by
  unfold clrI
  split
  · exact h i k hi hk
  · omega
end Go.Proofs.YtljmggemdkfbiaaGreat

/- Contract of tri's Is, of fractions (layer 7), of whatever function value zero is. -/
namespace Go.Proofs.YtljmggemdkfbiaaGreat
open Go.RowKit Go.Shelf
set_option linter.unusedSimpArgs false
set_option linter.unusedVariables false
attribute [local go_sem] Oper.semAt_some
end Go.Proofs.YtljmggemdkfbiaaGreat

/- A region that draws its order and ends in an append (or what else turns a row) and a store of what it told: by one fact an operation, whatever their order. -/
namespace Go.Proofs.YtljmggemdkfbiaaGreat
open Go.RowKit
set_option linter.unusedSimpArgs false
set_option linter.unusedVariables false

end Go.Proofs.YtljmggemdkfbiaaGreat

/- Contract of tri's Diagonal, of fractions (layer 7). Written by genTr.py. -/
namespace Go.Proofs.YtljmggemdkfbiaaGreat
open Go.RowKit Go.Shelf
set_option linter.unusedSimpArgs false
set_option linter.unusedVariables false
attribute [local go_sem] Oper.semAt_some

end Go.Proofs.YtljmggemdkfbiaaGreat

/- awake of layer 7's laws; whether a number is 0, as the laws' closures tell it. -/
namespace Go.Proofs.YtljmggemdkfbiaaGreat
open Go.RowKit
set_option linter.unusedSimpArgs false
set_option linter.unusedVariables false

/-- A matrix of whole numbers, as layer 6's Same is asked of it. -/
theorem mxI_rq {w : World} {R C : Nat} {p : Option Addr} {n cap : Nat} {s : Nat → Nat → Int} (h : MxI w R C p n cap s) : Rq 3 cellsF w (.slice p n cap) ((mk R C s).map itF) := by
  rw [mk_map]; exact h.2.2
end Go.Proofs.YtljmggemdkfbiaaGreat

/- Squares of whole numbers, as fractions (layer 7): contract, mathematics. Written by genTw.py. -/
namespace Go.Proofs.YtljmggemdkfbiaaGreat
open Go.RowKit
set_option linter.unusedSimpArgs false
set_option linter.unusedVariables false

theorem sqI_symm (n : Nat) (f : Nat → Nat → Int) (i k : Nat) : sqI n f i k = sqI n f k i := dotI_comm _ _
theorem sqI_mir (n : Nat) (f : Nat → Nat → Int) (i k : Nat) : sqI n f (max i k) (min i k) = sqI n f i k := by
  by_cases h : k ≤ i
  · rw [Nat.max_eq_left h, Nat.min_eq_right h]
  · rw [Nat.max_eq_right (by omega), Nat.min_eq_left (by omega), sqI_symm]
theorem sqI_bound {n : Nat} {s : Nat → Nat → Int} (hn : n ≤ 16) (hs : Sm2 100 n n s) {i k : Nat} (hi : i < n) (hk : k < n) : -160000 ≤ sqI n s i k ∧ sqI n s i k ≤ 160000 := by
  have := mulI_bound (A := 100) (B := 100) (R := n) (M := n) (D := n) (a := s) (b := fun i k => s k i) (by omega) (by omega) hs (fun i k hi hk => hs k i hk hi) hi hk n (Nat.le_refl _)
  unfold sqI
  constructor <;> omega
theorem sqI_mk {n : Nat} {s : Nat → Nat → Int} (hn : n ≤ 16) (hs : Sm2 100 n n s) : ∀ x ∈ mk n n (sqI n s), Wh x := fun x hx => by
  have := mk_sml (A := 160000) (fun i k hi hk => sqI_bound hn hs hi hk) x hx
  exact ⟨by omega, by omega⟩
end Go.Proofs.YtljmggemdkfbiaaGreat

/- Root's states of whole numbers as fractions (layer 10): covers; what does not go together. -/
namespace Go.Proofs.YtljmggemdkfbiaaGreat
open Go.RowKit
set_option linter.unusedSimpArgs false
set_option linter.unusedVariables false

theorem Tryz.buildM0F (u : World) : (Instr.build 30 #[]).run Tryz.prog u = .ok (mV 0 0 none 0 0) u := by kernel_rfl
set_option maxRecDepth 100000 in
set_option maxHeartbeats 2000000 in
theorem rCoverF_no (px : Option Addr) (nx cx : Nat) (r c : Int) (p : Option Addr) (N cap : Nat) (w : World) (hf : fitJ r c N nx = false) :
    Calls Tryz.prog 28 #[sJ px nx cx r c p N cap] w fun e w' => e = .returned (mV 0 0 none 0 0) ∧ Bl w w' := by
  obtain ⟨W, hW⟩ : ∃ W, W = (w.alloc (.cells #[.slice px nx cx, .int .i64 r, .int .i64 c, .slice p N cap] 63)).alloc (.cells #[.int .i64 0, .int .i64 0, .slice none 0 0] 30) := ⟨_, rfl⟩
  have b0 : Bl w W := by rw [hW]; exact ((Bl.refl _).alloc _).alloc _
  have s0 : SBox W w.heap.size px nx cx r c p N cap := by rw [hW]; exact (SBox.new w _ _ _ _ _ _ _ _ _).later ((Bl.refl _).alloc _)
  have z0 : MBox W (w.heap.size + 1) 0 0 none 0 0 := by rw [hW]; have := MBox.new (w.alloc (.cells #[.slice px nx cx, .int .i64 r, .int .i64 c, .slice p N cap] 63)) 0 0 none 0 0 30; rw [World.size_alloc] at this; exact this
  have hs : W.heap.size = w.heap.size + 1 + 1 := by rw [hW]; simp
  have HW := hideP hW
  obtain ⟨c0, c1, c2, c3, _, _, _, _, _⟩ := id s0
  rw [hW] at c0 c1 c2 c3
  have BM := Tryz.buildM0F
  clear hW
  go_enter Tryz.func28, Tryz.ntmps28
  go_wp2_with fail
  try simp only [World.size_alloc]
  rw [← HW.out]
  refine (rRightF px nx cx r c p N cap W).mono ?_
  rintro e w1 ⟨rfl, h1⟩
  rw [hf]
  clear c0 c1 c2 c3
  obtain ⟨d0, d1, d2, g0, g1, g2, _⟩ := z0.later h1
  have B1 : Bl w w1 := b0.trans h1
  go_wp2
  simp [bodyPost, results, Tryz.results28, go_sem, d0, d1, d2, g0, g1, g2]
  exact Bl.put3 B1 (Nat.le_succ _) _ _ _
theorem cover10I (n : Nat) (px : Option Addr) (cx : Nat) (p : Option Addr) (N cap : Nat) (s : Nat → Nat → Int) (w : World) (h : MxI w n n p N cap s) (hs : Sm2 100 n n s) (h4 : n ≤ 4) :
    Calls Tryz.prog 28 #[sJ px n cx n n p N cap] w fun e w' => ∃ p' c', e = .returned (mV n n p' N c') ∧ MxI w' n n p' N c' (sqI n s) ∧ Bl w w' := by
  refine (rCoverF n px cx p N cap _ w h h4).mono ?_
  rintro e w' ⟨p', cap', rfl, hm, hb⟩
  refine ⟨p', cap', rfl, hm.congr fun i k hi hk => ?_, hb⟩
  show mulMF n (fun i k => itF (s i k)) (fun i k => itF (s k i)) (max i k) (min i k) = _
  have e := mulM_it (a := s) (b := fun i k => s k i) (A := 100) (B := 100) (R := n) (M := n) (D := n) hs (fun i k hi hk => hs k i hk hi) h.1.r2 (by omega) (by omega) (by omega) (i := max i k) (k := min i k) (by omega) (by omega)
  refine e.trans ?_
  rw [show mulI n s (fun i k => s k i) (max i k) (min i k) = sqI n s (max i k) (min i k) from rfl, sqI_mir]
end Go.Proofs.YtljmggemdkfbiaaGreat

/- The walk of RootNew. Written by genRn.py. -/
namespace Go.Proofs.YtljmggemdkfbiaaGreat
open Go.RowKit
set_option linter.unusedSimpArgs false
set_option linter.unusedVariables false

set_option maxRecDepth 100000 in
set_option maxHeartbeats 8000000 in
theorem walk_RootNew (va : Value) (xa : List Int) (vb : Value) (xb : List Int) (n : Int) (w : World) (ha : Rq 1 cI w va xa) (hb : Rq 1 cI w vb xb) :
    Calls Tryz.prog 6 #[va, vb, .int .i64 n] w fun e w' => e = .returned (.bool true) ∧ Bl w w' := by
  have fm : Tryz.prog.follows .mixedOrders = true := by kernel_rfl
  have egW := enters_of Tryz.func16 (by kernel_rfl) rfl
  have egN := enters_of Tryz.func25 (by kernel_rfl) rfl
  have AW := hideP awake10_any
  have FA := hideP (few6_any va xa w ha)
  have FB := hideP (few6_any vb xb w hb)
  obtain ⟨pa, ca, rfl, _, _⟩ := ha.cut
  obtain ⟨pb, cb, rfl, _, _⟩ := hb.cut
  obtain ⟨la, hla⟩ : ∃ la, la = xa.length := ⟨_, rfl⟩
  obtain ⟨N, hlb⟩ : ∃ N, N = xb.length := ⟨_, rfl⟩
  rw [← hla] at FA ha ⊢
  rw [← hlb] at FB hb ⊢
  have HLB := hideP hlb
  have HXB := hideP hb
  have HXA := hideP (show Rq 1 cI w (.slice pa la ca) (linJ la (fun i => xa.getD i 0)) from by rw [← linJ_of (n := la) 0 xa hla.symm]; exact ha)
  clear ha hla hb hlb
  go_enter Tryz.func6, Tryz.ntmps6
  go_wp2_with fail
  refine FA.out.mono ?_
  rintro e w1 ⟨b1, rfl, hb1, rfl⟩
  clear FA
  cases b1 with
  | false =>
    go_wp2_with fail
    refine (AW.out _).mono ?_
    rintro e w99 ⟨rfl, h99⟩
    go_wp2
    go_ret
    exact ⟨rfl, (Bl.refl _).trans h99⟩
  | true =>
    clear hb1
    go_wp2_with fail
    refine FB.out.mono ?_
    rintro e w1 ⟨b2, rfl, hb2, rfl⟩
    clear FB
    cases b2 with
    | false =>
      go_wp2_with fail
      refine (AW.out _).mono ?_
      rintro e w99 ⟨rfl, h99⟩
      go_wp2
      go_ret
      exact ⟨rfl, (Bl.refl _).trans h99⟩
    | true =>
      obtain ⟨_, hs6⟩ := hb2 rfl
      have HS6 := hideP hs6
      clear hb2 hs6
      by_cases h20 : 20 < la
      · have h20' : (la : Int) > 20 := by omega
        go_wp2_with fail
        refine (AW.out _).mono ?_
        rintro e w99 ⟨rfl, h99⟩
        go_wp2
        go_ret
        exact ⟨rfl, (Bl.refl _).trans h99⟩
      have h20' : ¬ (la : Int) > 20 := by omega
      have WHL := hideP (fun u (hu : Bl w1 u) => whole_linOF pa la ca (fun i => xa.getD i 0) u (HXA.out.later hu) (by omega))
      cases hfit : fitB n n N with
      | false =>
        have WN := hideP (mWholeF_no n n pb N cb w1 hfit)
        have HFIT := hideP (show fitJ 0 0 0 (la : Int) = false from by unfold fitJ; simp [fitB])
        clear hfit
        go_wp2_with fail
        refine WN.out.mono ?_
        rintro e w2 ⟨rfl, h2⟩
        obtain ⟨W2, hW2⟩ : ∃ W2, W2 = w2.alloc (.cells #[.int .i64 0, .int .i64 0, .slice none 0 0] 30) := ⟨_, rfl⟩
        have b2 : Bl w2 W2 := by rw [hW2]; exact (Bl.refl _).alloc _
        have k2 : MBox W2 w2.heap.size 0 0 none 0 0 := by rw [hW2]; exact MBox.new w2 _ _ _ _ _ _
        have B2 : Bl w1 W2 := h2.trans b2
        have HW2 := hideP hW2
        clear hW2 WN
        go_wp2_with fail
        rw [← HW2.out]
        refine (wpIn_wide (n := 8)).1 (region_q fm [some 34, some 35, some 36, some 37, some 33, some 38, some 39, some 9, none, some 10] (fun j => j == 6 || j == 9) 8 (by kernel_rfl) (by rfl)
              (fun j v u => match j with | 0 => v = .slice pa la ca | 1 => ∃ q c, v = .slice q la c ∧ Rw 3 cellsF u (.slice q la c) (linJ la (fun i => wholeF (xa.getD i 0))) | 2 => v = mV 0 0 none 0 0 | 3 => v = .tuple #[sJ none 0 0 0 0 none 0 0, .bool false] | 4 => v = .tuple #[sJ none 0 0 0 0 none 0 0, .bool false] | 5 => v = sJ none 0 0 0 0 none 0 0 | 6 => v = .bool false | 7 => ∃ b, v = .pointer (some ⟨b, 0, none⟩) ∧ W2.heap.size ≤ b ∧ SBox u b none 0 0 0 0 none 0 0 ∧ NoB u b | 9 => v = .bool false | _ => False)
              (by
                intro j v u u' hb h
                split at h <;> first | exact h | (obtain ⟨b, e, h1, h2, h3⟩ := h; exact ⟨b, e, h1, h2.later hb, h3.later hb h2.lt⟩) | (obtain ⟨q, c, p', c', e, h1, h2⟩ := h; exact ⟨q, c, p', c', e, h1.later hb, Mx.later h2 hb⟩) | (obtain ⟨q, c, e, h1⟩ := h; exact ⟨q, c, e, h1.later hb⟩) | (obtain ⟨g, e, h1⟩ := h; exact ⟨g, e, h1.later hb⟩)) (fun vs u0 u => ∃ b, vs 7 = .pointer (some ⟨b, 0, none⟩) ∧ W2.heap.size ≤ b ∧ SBox u b none 0 0 0 0 none 0 0 ∧ Bl W2 u) ?step ?still ?store ?fin)
        case step =>
          intro j o t act u ho hdt hpu hsz hu hfr hin
          have hj : j < 10 := (Array.getElem?_eq_some_iff.1 ho).1
          obtain ⟨y0, y1, y2, _, _, _, _⟩ := k2.later hu
          rcases (by omega : j = 0 ∨ j = 1 ∨ j = 2 ∨ j = 3 ∨ j = 4 ∨ j = 5 ∨ j = 6 ∨ j = 7 ∨ j = 8 ∨ j = 9) with rfl | rfl | rfl | rfl | rfl | rfl | rfl | rfl | rfl | rfl
          · simp only [List.getElem?_toArray, List.getElem?_cons_zero, List.getElem?_cons_succ, Option.some.injEq] at ho
            subst ho
            obtain rfl := Option.some.inj hdt
            have i0 : act.eval (.tmp (0 : Nat)) = .slice pa la ca := hfr 0 (by decide)
            exact plain_wp (by intro c h; cases h) (fun _ _ => trivial) (by simp only [execOp, i0, evalC, evalF, evalG]; simp [go_sem]) ⟨_, rfl, rfl, Bl.refl _⟩
          · simp only [List.getElem?_toArray, List.getElem?_cons_zero, List.getElem?_cons_succ, Option.some.injEq] at ho
            subst ho
            obtain rfl := Option.some.inj hdt
            have i34 : (act.eval (.tmp (34 : Nat))) = .slice pa la ca := hin ⟨0, .data⟩ (by simp) rfl 34 rfl
            refine enter_wp 16 #[.slice pa la ca] (by intro c h; cases h) (fun _ _ => trivial) (by simp only [execOp, evalC, evalF, evalG, resolve, i34, List.map_toArray, List.map_cons, List.map_nil]; simp [invoke, egW, Result.andThen, go_sem]) (by intro h; cases h) (callsIn_wide.2 (WHL.out u (B2.trans hu))) ?_
            rintro e w' ⟨q, c, rfl, hR, _, hb⟩
            exact ⟨_, rfl, _, rfl, ⟨q, c, rfl, hR⟩, hb⟩
          · simp only [List.getElem?_toArray, List.getElem?_cons_zero, List.getElem?_cons_succ, Option.some.injEq] at ho
            subst ho
            obtain rfl := Option.some.inj hdt
            have i7 : act.eval (.tmp (7 : Nat)) = .pointer (some ⟨w2.heap.size, 0, none⟩) := hfr 7 (by decide)
            exact plain_wp (by intro c h; cases h) (fun _ _ => trivial) (by simp only [execOp, i7, evalC, evalF, evalG]; simp [go_sem, y0, y1, y2]) ⟨_, rfl, rfl, Bl.refl _⟩
          · simp only [List.getElem?_toArray, List.getElem?_cons_zero, List.getElem?_cons_succ, Option.some.injEq] at ho
            subst ho
            obtain rfl := Option.some.inj hdt
            have i35 : ∃ q c, (act.eval (.tmp (35 : Nat))) = .slice q la c ∧ Rw 3 cellsF u (.slice q la c) (linJ la (fun i => wholeF (xa.getD i 0))) := hin ⟨1, .data⟩ (by simp) rfl 35 rfl
            have i36 : (act.eval (.tmp (36 : Nat))) = mV 0 0 none 0 0 := hin ⟨2, .data⟩ (by simp) rfl 36 rfl
            obtain ⟨q0, c0, e0, hq⟩ := i35
            refine enter_wp 25 #[.slice q0 la c0, mV 0 0 none 0 0] (by intro c h; cases h) (fun _ _ => trivial) (by simp only [execOp, evalC, evalF, evalG, resolve, e0, i36, List.map_toArray, List.map_cons, List.map_nil]; simp [invoke, egN, Result.andThen, go_sem]) (by intro h; cases h) (callsIn_wide.2 (rNewF_no q0 la c0 0 0 none 0 0 u HFIT.out)) ?_
            rintro e w' ⟨rfl, hb⟩
            exact ⟨_, rfl, _, rfl, rfl, hb⟩
          · simp only [List.getElem?_toArray, List.getElem?_cons_zero, List.getElem?_cons_succ, Option.some.injEq] at ho
            subst ho
            obtain rfl := Option.some.inj hdt
            have i37 : (act.eval (.tmp (37 : Nat))) = .tuple #[sJ none 0 0 0 0 none 0 0, .bool false] := hin ⟨3, .data⟩ (by simp) rfl 37 rfl
            have e1 := i37
            exact plain_wp (by intro c h; cases h) (fun _ _ => trivial) (by simp only [execOp, e1]; simp [go_sem]) ⟨_, rfl, rfl, Bl.refl _⟩
          · simp only [List.getElem?_toArray, List.getElem?_cons_zero, List.getElem?_cons_succ, Option.some.injEq] at ho
            subst ho
            obtain rfl := Option.some.inj hdt
            have i33 : (act.eval (.tmp (33 : Nat))) = .tuple #[sJ none 0 0 0 0 none 0 0, .bool false] := hin ⟨4, .data⟩ (by simp) rfl 33 rfl
            have e1 := i33
            exact plain_wp (by intro c h; cases h) (fun _ _ => trivial) (by simp only [execOp, e1]; simp [go_sem]) ⟨_, rfl, rfl, Bl.refl _⟩
          · cases hpu
          · simp only [List.getElem?_toArray, List.getElem?_cons_zero, List.getElem?_cons_succ, Option.some.injEq] at ho
            subst ho
            obtain rfl := Option.some.inj hdt
            exact plain_wp (by intro c h; cases h) (fun _ _ => trivial) (w' := u.alloc (.cells #[.slice none 0 0, .int .i64 0, .int .i64 0, .slice none 0 0] 63)) (v := .pointer (some ⟨u.heap.size, 0, none⟩)) (by simp only [execOp]; simp [go_sem]) ⟨_, rfl, ⟨u.heap.size, rfl, hu.size, SBox.new u _ _ _ _ _ _ _ _ _, noB_newSF u _⟩, (Bl.refl _).alloc _⟩
          · simp only [List.getElem?_toArray, List.getElem?_cons_zero, List.getElem?_cons_succ, Option.some.injEq] at ho
            subst ho
            cases hdt
          · cases hpu
        case still =>
          intro j o t act u0 u ho hdt hpu hsz hu hfr hin
          have hj : j < 10 := (Array.getElem?_eq_some_iff.1 ho).1
          obtain ⟨y0, y1, y2, _, _, _, _⟩ := k2.later hu
          rcases (by omega : j = 0 ∨ j = 1 ∨ j = 2 ∨ j = 3 ∨ j = 4 ∨ j = 5 ∨ j = 6 ∨ j = 7 ∨ j = 8 ∨ j = 9) with rfl | rfl | rfl | rfl | rfl | rfl | rfl | rfl | rfl | rfl
          · cases hpu
          · cases hpu
          · cases hpu
          · cases hpu
          · cases hpu
          · cases hpu
          · simp only [List.getElem?_toArray, List.getElem?_cons_zero, List.getElem?_cons_succ, Option.some.injEq] at ho
            subst ho
            obtain rfl := Option.some.inj hdt
            have i33 : (act.eval (.tmp (33 : Nat))) = .tuple #[sJ none 0 0 0 0 none 0 0, .bool false] := hin ⟨4, .data⟩ (by simp) rfl 33 rfl
            have e1 := i33
            exact plain_wp (by intro c h; cases h) (fun _ _ => trivial) (by simp only [execOp, e1]; simp [go_sem]) ⟨_, rfl, rfl, rfl⟩
          · cases hpu
          · cases hpu
          · simp only [List.getElem?_toArray, List.getElem?_cons_zero, List.getElem?_cons_succ, Option.some.injEq] at ho
            subst ho
            obtain rfl := Option.some.inj hdt
            have i39 : (act.eval (.tmp (39 : Nat))) = .bool false := hin ⟨6, .data⟩ (by simp) rfl 39 rfl
            exact plain_wp (by intro c h; cases h) (fun _ _ => trivial) (by simp only [execOp, i39, evalC, evalF, evalG]; simp [go_sem]) ⟨_, rfl, rfl, rfl⟩
        case store =>
          intro o act u vs ho hsz hu hfr hin
          simp only [List.getElem?_toArray, List.getElem?_cons_zero, List.getElem?_cons_succ, Option.some.injEq] at ho
          subst ho
          obtain ⟨i9, k9⟩ : act.eval (.tmp (9 : Nat)) = vs 7 ∧ (∃ b, (vs 7) = .pointer (some ⟨b, 0, none⟩) ∧ W2.heap.size ≤ b ∧ SBox u b none 0 0 0 0 none 0 0 ∧ NoB u b) := hin 7 9 rfl rfl
          obtain ⟨i38, k38⟩ : act.eval (.tmp (38 : Nat)) = vs 5 ∧ ((vs 5) = sJ none 0 0 0 0 none 0 0) := hin 5 38 rfl rfl
          obtain ⟨b, e1, hb, bx, nb⟩ := k9
          have e2 := k38
          rw [e1] at i9
          rw [e2] at i38
          obtain ⟨d0, d1, d2, d3, g0, g1, g2, g3, ltb⟩ := id bx
          exact skip_wp (by intro c h; cases h) (fun _ _ => trivial) (by simp only [execOp, i9, i38]; simp [go_sem, d0, d1, d2, d3, g0, g1, g2, g3]) ⟨rfl, b, e1, hb, bx.fill _ _ _ _ _ _ _ _, Bl.put4 hu hb _ _ _ _⟩
        case fin =>
          intro vs vb u0 u hu hin hps
          have a0 := hin 0 34 rfl
          have a1 := hin 1 35 rfl
          have a2 := hin 2 36 rfl
          have a3 := hin 3 37 rfl
          have a4 := hin 4 33 rfl
          have a5 := hin 5 38 rfl
          have a6 := hin 6 39 rfl
          have a7 := hin 7 9 rfl
          have a9 := hin 9 10 rfl
          simp only [putL, Act.put, List.setIfInBounds_toArray, List.set_cons_zero, List.set_cons_succ, Nat.zero_add, Nat.reduceAdd, Nat.reduceBEq, Bool.or_false, Bool.or_true, Bool.false_or, Bool.true_or, Bool.false_eq_true, if_false, if_true, reduceIte, Nat.reduceEqDiff, beq_self_eq_true, Bool.or_self] at a0 a1 a2 a3 a4 a5 a6 a7 a9 ⊢
          rw [if_pos (by decide)] at hps
          simp only [a0, a2, a3, a4, a5, a6, a9]
          obtain ⟨b, eb, hb, ks, hbu⟩ := hps
          simp only [eb]
          obtain ⟨w3, rfl⟩ : ∃ w3, w3 = u := ⟨_, rfl⟩
          clear a1 a7 hu hin
          have B3 : Bl w1 w3 := B2.trans hbu
          have RT := hideP (fun u => by have := rRightF none 0 0 0 0 none 0 0 u; rw [show fitJ 0 0 0 ((0 : Nat) : Int) = false from rfl] at this; exact this)
          have CV := hideP (fun u => rCoverF_no none 0 0 0 0 none 0 0 u rfl)
          have SN := hideP (fun u => same6_any 0 0 none 0 0 none 0 [] u (.inl ⟨none, 0, rfl, rfl, fun _ => rfl⟩) (.inl ⟨none, 0, rfl, rfl, fun _ => rfl⟩) rfl (by intro x hx; cases hx) (by omega))
          obtain ⟨s0, s1, s2, s3, _, _, _, _, _⟩ := id ks
          go_wp2_with fail
          refine (RT.out _).mono ?_
          rintro e w4 ⟨rfl, h4'⟩
          clear s0 s1 s2 s3
          obtain ⟨s0, s1, s2, s3, _, _, _, _, _⟩ := ks.later h4'
          go_wp2_with fail
          refine (CV.out _).mono ?_
          rintro e w5 ⟨rfl, h5⟩
          go_wp2_with fail
          refine (SN.out _).mono ?_
          rintro e w6 ⟨rfl, h6⟩
          go_wp2_with fail
          refine (AW.out _).mono ?_
          rintro e w99 ⟨rfl, h99⟩
          go_wp2
          go_ret
          exact ⟨rfl, (B3.trans (h4'.trans (h5.trans h6))).trans h99⟩
      | true =>
        obtain ⟨m, m', e1, e2, hd, hN⟩ := fitB_nat hfit
        obtain rfl : m = m' := by omega
        subst e1
        have WN := hideP (whole6_call m m pb N cb xb w1 HXB.out hfit HLB.out.symm HS6.out)
        have HD := hideP hd
        have HNM := hideP hN
        clear hfit e2
        have hm1 : 1 ≤ m := HD.out.r1
        have CL := hideP (fun u (hu : Bl w1 u) => by have := ref7Clear_any pb N cb xb m u HD.out (HXB.out.later hu) (HLB.out.symm.trans HNM.out) HNM.out; rw [← HNM.out] at this; exact this)
        have hsm : Sm2 100 m m (ofL m xb) := ofL_sml (HLB.out.symm.trans HNM.out) HS6.out
        have CS := hideP (clrI_sm (by omega) hsm)
        have SQ := hideP (fun p5 c5 u (hu : Rq 1 cI u (.slice p5 N c5) (mk m m (clrI (ofL m xb)))) => by
          have := ref7Square_any p5 N c5 (mk m m (clrI (ofL m xb))) m u HD.out hu (mk_len _ _ _) HNM.out (by
            intro x hx
            obtain ⟨i, hi, hx⟩ := List.mem_flatMap.1 hx
            obtain ⟨j, hj, rfl⟩ := List.mem_map.1 hx
            exact CS.out i j (by simpa using hi) (by simpa using hj))
          rw [← HNM.out, show mk m m (sqI m (ofL m (mk m m (clrI (ofL m xb))))) = mk m m (sqI m (clrI (ofL m xb))) from mk_congr fun i j hi hj => mulI_congr7 (fun t ht => ofL_mk7 _ hi ht) (fun t ht => ofL_mk7 _ hj ht)] at this
          exact this)
        clear hd hN hsm
        go_wp2_with fail
        refine WN.out.mono ?_
        rintro e w2 ⟨p2, c2, rfl, hx, h2⟩
        obtain ⟨W2, hW2⟩ : ∃ W2, W2 = w2.alloc (.cells #[.int .i64 m, .int .i64 m, .slice p2 N c2] 30) := ⟨_, rfl⟩
        have b2 : Bl w2 W2 := by rw [hW2]; exact (Bl.refl _).alloc _
        have k2 : MBox W2 w2.heap.size m m p2 N c2 := by rw [hW2]; exact MBox.new w2 _ _ _ _ _ _
        have B2 : Bl w1 W2 := h2.trans b2
        have HX := hideP (Mx.later hx b2)
        have HW2 := hideP hW2
        clear hW2 hx WN
        by_cases hlm : la = m
        · subst hlm
          by_cases h4 : la ≤ 4
          · have HFIT := hideP (fitJ_dim HX.out.1 HX.out.2.1 h4)
            have e1 : ((la : Int) != (la : Int)) = false := by simp
            have e2 : ¬ (la : Int) > 4 := by omega
            go_wp2_with fail
            rw [← HW2.out]
            refine (wpIn_wide (n := 8)).1 (region_q fm [some 34, some 35, some 36, some 37, some 33, some 38, some 39, some 9, none, some 10] (fun j => j == 6 || j == 9) 8 (by kernel_rfl) (by rfl)
                  (fun j v u => match j with | 0 => v = .slice pa la ca | 1 => ∃ q c, v = .slice q la c ∧ Rw 3 cellsF u (.slice q la c) (linJ la (fun i => wholeF (xa.getD i 0))) | 2 => v = mV la la p2 N c2 | 3 => ∃ q c p' c', v = .tuple #[sJ q (la) c (la : Nat) (la : Nat) p' (N) c', .bool true] ∧ Rw 3 cellsF u (.slice q (la) c) (linJ (la) (fun i => wholeF (xa.getD i 0))) ∧ Mx 3 cellsF u (la) (la) p' (N) c' (clrF (fun i j => itF (ofL la xb i j))) | 4 => ∃ q c p' c', v = .tuple #[sJ q (la) c (la : Nat) (la : Nat) p' (N) c', .bool true] ∧ Rw 3 cellsF u (.slice q (la) c) (linJ (la) (fun i => wholeF (xa.getD i 0))) ∧ Mx 3 cellsF u (la) (la) p' (N) c' (clrF (fun i j => itF (ofL la xb i j))) | 5 => ∃ q c p' c', v = sJ q (la) c (la : Nat) (la : Nat) p' (N) c' ∧ Rw 3 cellsF u (.slice q (la) c) (linJ (la) (fun i => wholeF (xa.getD i 0))) ∧ Mx 3 cellsF u (la) (la) p' (N) c' (clrF (fun i j => itF (ofL la xb i j))) | 6 => v = .bool true | 7 => ∃ b, v = .pointer (some ⟨b, 0, none⟩) ∧ W2.heap.size ≤ b ∧ SBox u b none 0 0 0 0 none 0 0 ∧ NoB u b | 9 => v = .bool true | _ => False)
                  (by
                    intro j v u u' hb h
                    split at h <;> first | exact h | (obtain ⟨b, e, h1, h2, h3⟩ := h; exact ⟨b, e, h1, h2.later hb, h3.later hb h2.lt⟩) | (obtain ⟨q, c, p', c', e, h1, h2⟩ := h; exact ⟨q, c, p', c', e, h1.later hb, Mx.later h2 hb⟩) | (obtain ⟨q, c, e, h1⟩ := h; exact ⟨q, c, e, h1.later hb⟩) | (obtain ⟨g, e, h1⟩ := h; exact ⟨g, e, h1.later hb⟩)) (fun vs u0 u => ∃ b q c p' c', vs 7 = .pointer (some ⟨b, 0, none⟩) ∧ W2.heap.size ≤ b ∧ SBox u b q (la) c (la : Nat) (la : Nat) p' (N) c' ∧ Rw 3 cellsF u (.slice q (la) c) (linJ (la) (fun i => wholeF (xa.getD i 0))) ∧ Mx 3 cellsF u (la) (la) p' (N) c' (clrF (fun i j => itF (ofL la xb i j))) ∧ Bl W2 u) ?step ?still ?store ?fin)
            case step =>
              intro j o t act u ho hdt hpu hsz hu hfr hin
              have hj : j < 10 := (Array.getElem?_eq_some_iff.1 ho).1
              obtain ⟨y0, y1, y2, _, _, _, _⟩ := k2.later hu
              rcases (by omega : j = 0 ∨ j = 1 ∨ j = 2 ∨ j = 3 ∨ j = 4 ∨ j = 5 ∨ j = 6 ∨ j = 7 ∨ j = 8 ∨ j = 9) with rfl | rfl | rfl | rfl | rfl | rfl | rfl | rfl | rfl | rfl
              · simp only [List.getElem?_toArray, List.getElem?_cons_zero, List.getElem?_cons_succ, Option.some.injEq] at ho
                subst ho
                obtain rfl := Option.some.inj hdt
                have i0 : act.eval (.tmp (0 : Nat)) = .slice pa la ca := hfr 0 (by decide)
                exact plain_wp (by intro c h; cases h) (fun _ _ => trivial) (by simp only [execOp, i0, evalC, evalF, evalG]; simp [go_sem]) ⟨_, rfl, rfl, Bl.refl _⟩
              · simp only [List.getElem?_toArray, List.getElem?_cons_zero, List.getElem?_cons_succ, Option.some.injEq] at ho
                subst ho
                obtain rfl := Option.some.inj hdt
                have i34 : (act.eval (.tmp (34 : Nat))) = .slice pa la ca := hin ⟨0, .data⟩ (by simp) rfl 34 rfl
                refine enter_wp 16 #[.slice pa la ca] (by intro c h; cases h) (fun _ _ => trivial) (by simp only [execOp, evalC, evalF, evalG, resolve, i34, List.map_toArray, List.map_cons, List.map_nil]; simp [invoke, egW, Result.andThen, go_sem]) (by intro h; cases h) (callsIn_wide.2 (WHL.out u (B2.trans hu))) ?_
                rintro e w' ⟨q, c, rfl, hR, _, hb⟩
                exact ⟨_, rfl, _, rfl, ⟨q, c, rfl, hR⟩, hb⟩
              · simp only [List.getElem?_toArray, List.getElem?_cons_zero, List.getElem?_cons_succ, Option.some.injEq] at ho
                subst ho
                obtain rfl := Option.some.inj hdt
                have i7 : act.eval (.tmp (7 : Nat)) = .pointer (some ⟨w2.heap.size, 0, none⟩) := hfr 7 (by decide)
                exact plain_wp (by intro c h; cases h) (fun _ _ => trivial) (by simp only [execOp, i7, evalC, evalF, evalG]; simp [go_sem, y0, y1, y2]) ⟨_, rfl, rfl, Bl.refl _⟩
              · simp only [List.getElem?_toArray, List.getElem?_cons_zero, List.getElem?_cons_succ, Option.some.injEq] at ho
                subst ho
                obtain rfl := Option.some.inj hdt
                have i35 : ∃ q c, (act.eval (.tmp (35 : Nat))) = .slice q la c ∧ Rw 3 cellsF u (.slice q la c) (linJ la (fun i => wholeF (xa.getD i 0))) := hin ⟨1, .data⟩ (by simp) rfl 35 rfl
                have i36 : (act.eval (.tmp (36 : Nat))) = mV la la p2 N c2 := hin ⟨2, .data⟩ (by simp) rfl 36 rfl
                obtain ⟨q0, c0, e0, hq⟩ := i35
                refine enter_wp 25 #[.slice q0 la c0, mV la la p2 N c2] (by intro c h; cases h) (fun _ _ => trivial) (by simp only [execOp, evalC, evalF, evalG, resolve, e0, i36, List.map_toArray, List.map_cons, List.map_nil]; simp [invoke, egN, Result.andThen, go_sem]) (by intro h; cases h) (callsIn_wide.2 (rNewF la q0 c0 (fun i => wholeF (xa.getD i 0)) p2 N c2 (fun i j => itF (ofL la xb i j)) u hq.q (HX.out.later hu) h4)) ?_
                rintro e w' ⟨q, c, p', c', rfl, ⟨hR, hM⟩, hb⟩
                exact ⟨_, rfl, _, rfl, ⟨q, c, p', c', rfl, hR, hM⟩, hb⟩
              · simp only [List.getElem?_toArray, List.getElem?_cons_zero, List.getElem?_cons_succ, Option.some.injEq] at ho
                subst ho
                obtain rfl := Option.some.inj hdt
                have i37 : ∃ q c p' c', (act.eval (.tmp (37 : Nat))) = .tuple #[sJ q (la) c (la : Nat) (la : Nat) p' (N) c', .bool true] ∧ Rw 3 cellsF u (.slice q (la) c) (linJ (la) (fun i => wholeF (xa.getD i 0))) ∧ Mx 3 cellsF u (la) (la) p' (N) c' (clrF (fun i j => itF (ofL la xb i j))) := hin ⟨3, .data⟩ (by simp) rfl 37 rfl
                obtain ⟨q0, c0', p0, c0, e1, hq1, hq2⟩ := i37
                exact plain_wp (by intro c h; cases h) (fun _ _ => trivial) (by simp only [execOp, e1]; simp [go_sem]) ⟨_, rfl, ⟨q0, c0', p0, c0, rfl, hq1, hq2⟩, Bl.refl _⟩
              · simp only [List.getElem?_toArray, List.getElem?_cons_zero, List.getElem?_cons_succ, Option.some.injEq] at ho
                subst ho
                obtain rfl := Option.some.inj hdt
                have i33 : ∃ q c p' c', (act.eval (.tmp (33 : Nat))) = .tuple #[sJ q (la) c (la : Nat) (la : Nat) p' (N) c', .bool true] ∧ Rw 3 cellsF u (.slice q (la) c) (linJ (la) (fun i => wholeF (xa.getD i 0))) ∧ Mx 3 cellsF u (la) (la) p' (N) c' (clrF (fun i j => itF (ofL la xb i j))) := hin ⟨4, .data⟩ (by simp) rfl 33 rfl
                obtain ⟨q0, c0', p0, c0, e1, hq1, hq2⟩ := i33
                exact plain_wp (by intro c h; cases h) (fun _ _ => trivial) (by simp only [execOp, e1]; simp [go_sem]) ⟨_, rfl, ⟨q0, c0', p0, c0, rfl, hq1, hq2⟩, Bl.refl _⟩
              · cases hpu
              · simp only [List.getElem?_toArray, List.getElem?_cons_zero, List.getElem?_cons_succ, Option.some.injEq] at ho
                subst ho
                obtain rfl := Option.some.inj hdt
                exact plain_wp (by intro c h; cases h) (fun _ _ => trivial) (w' := u.alloc (.cells #[.slice none 0 0, .int .i64 0, .int .i64 0, .slice none 0 0] 63)) (v := .pointer (some ⟨u.heap.size, 0, none⟩)) (by simp only [execOp]; simp [go_sem]) ⟨_, rfl, ⟨u.heap.size, rfl, hu.size, SBox.new u _ _ _ _ _ _ _ _ _, noB_newSF u _⟩, (Bl.refl _).alloc _⟩
              · simp only [List.getElem?_toArray, List.getElem?_cons_zero, List.getElem?_cons_succ, Option.some.injEq] at ho
                subst ho
                cases hdt
              · cases hpu
            case still =>
              intro j o t act u0 u ho hdt hpu hsz hu hfr hin
              have hj : j < 10 := (Array.getElem?_eq_some_iff.1 ho).1
              obtain ⟨y0, y1, y2, _, _, _, _⟩ := k2.later hu
              rcases (by omega : j = 0 ∨ j = 1 ∨ j = 2 ∨ j = 3 ∨ j = 4 ∨ j = 5 ∨ j = 6 ∨ j = 7 ∨ j = 8 ∨ j = 9) with rfl | rfl | rfl | rfl | rfl | rfl | rfl | rfl | rfl | rfl
              · cases hpu
              · cases hpu
              · cases hpu
              · cases hpu
              · cases hpu
              · cases hpu
              · simp only [List.getElem?_toArray, List.getElem?_cons_zero, List.getElem?_cons_succ, Option.some.injEq] at ho
                subst ho
                obtain rfl := Option.some.inj hdt
                have i33 : ∃ q c p' c', (act.eval (.tmp (33 : Nat))) = .tuple #[sJ q (la) c (la : Nat) (la : Nat) p' (N) c', .bool true] ∧ Rw 3 cellsF u0 (.slice q (la) c) (linJ (la) (fun i => wholeF (xa.getD i 0))) ∧ Mx 3 cellsF u0 (la) (la) p' (N) c' (clrF (fun i j => itF (ofL la xb i j))) := hin ⟨4, .data⟩ (by simp) rfl 33 rfl
                obtain ⟨q0, c0', p0, c0, e1, hq1, hq2⟩ := i33
                exact plain_wp (by intro c h; cases h) (fun _ _ => trivial) (by simp only [execOp, e1]; simp [go_sem]) ⟨_, rfl, rfl, rfl⟩
              · cases hpu
              · cases hpu
              · simp only [List.getElem?_toArray, List.getElem?_cons_zero, List.getElem?_cons_succ, Option.some.injEq] at ho
                subst ho
                obtain rfl := Option.some.inj hdt
                have i39 : (act.eval (.tmp (39 : Nat))) = .bool true := hin ⟨6, .data⟩ (by simp) rfl 39 rfl
                exact plain_wp (by intro c h; cases h) (fun _ _ => trivial) (by simp only [execOp, i39, evalC, evalF, evalG]; simp [go_sem]) ⟨_, rfl, rfl, rfl⟩
            case store =>
              intro o act u vs ho hsz hu hfr hin
              simp only [List.getElem?_toArray, List.getElem?_cons_zero, List.getElem?_cons_succ, Option.some.injEq] at ho
              subst ho
              obtain ⟨i9, k9⟩ : act.eval (.tmp (9 : Nat)) = vs 7 ∧ (∃ b, (vs 7) = .pointer (some ⟨b, 0, none⟩) ∧ W2.heap.size ≤ b ∧ SBox u b none 0 0 0 0 none 0 0 ∧ NoB u b) := hin 7 9 rfl rfl
              obtain ⟨i38, k38⟩ : act.eval (.tmp (38 : Nat)) = vs 5 ∧ (∃ q c p' c', (vs 5) = sJ q (la) c (la : Nat) (la : Nat) p' (N) c' ∧ Rw 3 cellsF u (.slice q (la) c) (linJ (la) (fun i => wholeF (xa.getD i 0))) ∧ Mx 3 cellsF u (la) (la) p' (N) c' (clrF (fun i j => itF (ofL la xb i j)))) := hin 5 38 rfl rfl
              obtain ⟨b, e1, hb, bx, nb⟩ := k9
              obtain ⟨q0, c0', p0, c0, e2, hq1, hq2⟩ := k38
              rw [e1] at i9
              rw [e2] at i38
              obtain ⟨d0, d1, d2, d3, g0, g1, g2, g3, ltb⟩ := id bx
              exact skip_wp (by intro c h; cases h) (fun _ _ => trivial) (by simp only [execOp, i9, i38]; simp [go_sem, d0, d1, d2, d3, g0, g1, g2, g3]) ⟨rfl, b, q0, c0', p0, c0, e1, hb, bx.fill _ _ _ _ _ _ _ _, hq1.but (but4F _ _ _ _ _ _) (fun g hg => noB_rwF hq1 ((by omega)) nb g hg), Mx.but hq2 (but4F _ _ _ _ _ _) (fun g hg => Ne.symm (noB_mx boolF hq2 nb g hg)), Bl.put4 hu hb _ _ _ _⟩
            case fin =>
              intro vs vb u0 u hu hin hps
              have a0 := hin 0 34 rfl
              have a1 := hin 1 35 rfl
              have a2 := hin 2 36 rfl
              have a3 := hin 3 37 rfl
              have a4 := hin 4 33 rfl
              have a5 := hin 5 38 rfl
              have a6 := hin 6 39 rfl
              have a7 := hin 7 9 rfl
              have a9 := hin 9 10 rfl
              simp only [putL, Act.put, List.setIfInBounds_toArray, List.set_cons_zero, List.set_cons_succ, Nat.zero_add, Nat.reduceAdd, Nat.reduceBEq, Bool.or_false, Bool.or_true, Bool.false_or, Bool.true_or, Bool.false_eq_true, if_false, if_true, reduceIte, Nat.reduceEqDiff, beq_self_eq_true, Bool.or_self] at a0 a1 a2 a3 a4 a5 a6 a7 a9 ⊢
              rw [if_pos (by decide)] at hps
              simp only [a0, a2, a6, a9]
              obtain ⟨b, q1, cq1, p3, c3, eb, hb, ks, hR, hM, hbu⟩ := hps
              simp only [eb]
              obtain ⟨w3, rfl⟩ : ∃ w3, w3 = u := ⟨_, rfl⟩
              have hM2 : MxI w3 la la p3 N c3 (clrI (ofL la xb)) := hM.congr fun i j _ _ => by
                unfold clrF clrI
                split <;> rfl
              have HM := hideP hM2
              have B3 : Bl w1 w3 := B2.trans hbu
              have SN := hideP (fun p5 c5 u (hu : Bl w3 u) (hr : Rq 1 cI u (.slice p5 N c5) (mk la la (clrI (ofL la xb)))) => same6_any la la p3 N c3 p5 c5 (mk la la (clrI (ofL la xb))) u (mxI_rq (HM.out.later hu)) hr (by rw [mk_len]; exact HNM.out.symm) (by
                intro x hx
                obtain ⟨i, hi, hx⟩ := List.mem_flatMap.1 hx
                obtain ⟨j, hj, rfl⟩ := List.mem_map.1 hx
                have := CS.out i j (by simpa using hi) (by simpa using hj)
                exact ⟨by omega, by omega⟩) (by have := HNM.out; have : la * la ≤ 4 * 4 := Nat.mul_le_mul h4 h4; omega))
              have CV := hideP (fun u (hu : Bl w3 u) => cover10I la q1 cq1 p3 N c3 (clrI (ofL la xb)) u (HM.out.later hu) CS.out h4)
              have RT := hideP (fun u => by have := rRightF q1 la cq1 la la p3 N c3 u; rw [HFIT.out] at this; exact this)
              clear hR hM hM2 a1 a3 a4 a5 a7 hu hin
              go_wp2_with fail
              refine (CL.out w3 B3).mono ?_
              rintro e w5 ⟨p5, c5, rfl, hr5, h5⟩
              have HR5 := hideP hr5.q
              clear hr5
              obtain ⟨s0, s1, s2, s3, _, _, _, _, _⟩ := ks.later h5
              go_wp2_with fail
              refine (SN.out _ _ _ h5 HR5.out).mono ?_
              rintro e w6 ⟨rfl, h6⟩
              clear s0 s1 s2 s3
              obtain ⟨s0, s1, s2, s3, _, _, _, _, _⟩ := ks.later (h5.trans h6)
              go_wp2_with fail
              refine (CV.out _ (h5.trans h6)).mono ?_
              rintro e w7 ⟨p7, c7, rfl, hm7, h7⟩
              have HM7 := hideP hm7
              clear hm7
              go_wp2_with fail
              refine (SQ.out _ _ _ (HR5.out.later (h6.trans h7))).mono ?_
              rintro e w8 ⟨p8, c8, rfl, hr8, h8⟩
              have HR8 := hideP hr8.q
              clear hr8
              go_wp2_with fail
              refine (same6_any la la p7 N c7 p8 c8 (mk la la (sqI la (clrI (ofL la xb)))) _ (mxI_rq (HM7.out.later h8)) HR8.out (by rw [mk_len]; exact HNM.out.symm) (sqI_mk (by omega) CS.out) (by have := HNM.out; have : la * la ≤ 4 * 4 := Nat.mul_le_mul h4 h4; omega)).mono ?_
              rintro e w9 ⟨rfl, h9⟩
              clear s0 s1 s2 s3
              obtain ⟨s0, s1, s2, s3, _, _, _, _, _⟩ := ks.later (h5.trans (h6.trans (h7.trans (h8.trans h9))))
              go_wp2_with fail
              refine (RT.out _).mono ?_
              rintro e w10 ⟨rfl, h10⟩
              go_wp2_with fail
              refine (AW.out _).mono ?_
              rintro e w99 ⟨rfl, h99⟩
              go_wp2
              go_ret
              exact ⟨rfl, (B3.trans (h5.trans (h6.trans (h7.trans (h8.trans (h9.trans h10)))))).trans h99⟩
          · have HFIT := hideP (show fitJ la la N la = false from by unfold fitJ; rw [decide_eq_false (by omega)]; rfl)
            have e1 : ((la : Int) != (la : Int)) = false := by simp
            have e2 : (la : Int) > 4 := by omega
            go_wp2_with fail
            rw [← HW2.out]
            refine (wpIn_wide (n := 8)).1 (region_q fm [some 34, some 35, some 36, some 37, some 33, some 38, some 39, some 9, none, some 10] (fun j => j == 6 || j == 9) 8 (by kernel_rfl) (by rfl)
                  (fun j v u => match j with | 0 => v = .slice pa la ca | 1 => ∃ q c, v = .slice q la c ∧ Rw 3 cellsF u (.slice q la c) (linJ la (fun i => wholeF (xa.getD i 0))) | 2 => v = mV la la p2 N c2 | 3 => v = .tuple #[sJ none 0 0 0 0 none 0 0, .bool false] | 4 => v = .tuple #[sJ none 0 0 0 0 none 0 0, .bool false] | 5 => v = sJ none 0 0 0 0 none 0 0 | 6 => v = .bool false | 7 => ∃ b, v = .pointer (some ⟨b, 0, none⟩) ∧ W2.heap.size ≤ b ∧ SBox u b none 0 0 0 0 none 0 0 ∧ NoB u b | 9 => v = .bool false | _ => False)
                  (by
                    intro j v u u' hb h
                    split at h <;> first | exact h | (obtain ⟨b, e, h1, h2, h3⟩ := h; exact ⟨b, e, h1, h2.later hb, h3.later hb h2.lt⟩) | (obtain ⟨q, c, p', c', e, h1, h2⟩ := h; exact ⟨q, c, p', c', e, h1.later hb, Mx.later h2 hb⟩) | (obtain ⟨q, c, e, h1⟩ := h; exact ⟨q, c, e, h1.later hb⟩) | (obtain ⟨g, e, h1⟩ := h; exact ⟨g, e, h1.later hb⟩)) (fun vs u0 u => ∃ b, vs 7 = .pointer (some ⟨b, 0, none⟩) ∧ W2.heap.size ≤ b ∧ SBox u b none 0 0 0 0 none 0 0 ∧ Bl W2 u) ?step ?still ?store ?fin)
            case step =>
              intro j o t act u ho hdt hpu hsz hu hfr hin
              have hj : j < 10 := (Array.getElem?_eq_some_iff.1 ho).1
              obtain ⟨y0, y1, y2, _, _, _, _⟩ := k2.later hu
              rcases (by omega : j = 0 ∨ j = 1 ∨ j = 2 ∨ j = 3 ∨ j = 4 ∨ j = 5 ∨ j = 6 ∨ j = 7 ∨ j = 8 ∨ j = 9) with rfl | rfl | rfl | rfl | rfl | rfl | rfl | rfl | rfl | rfl
              · simp only [List.getElem?_toArray, List.getElem?_cons_zero, List.getElem?_cons_succ, Option.some.injEq] at ho
                subst ho
                obtain rfl := Option.some.inj hdt
                have i0 : act.eval (.tmp (0 : Nat)) = .slice pa la ca := hfr 0 (by decide)
                exact plain_wp (by intro c h; cases h) (fun _ _ => trivial) (by simp only [execOp, i0, evalC, evalF, evalG]; simp [go_sem]) ⟨_, rfl, rfl, Bl.refl _⟩
              · simp only [List.getElem?_toArray, List.getElem?_cons_zero, List.getElem?_cons_succ, Option.some.injEq] at ho
                subst ho
                obtain rfl := Option.some.inj hdt
                have i34 : (act.eval (.tmp (34 : Nat))) = .slice pa la ca := hin ⟨0, .data⟩ (by simp) rfl 34 rfl
                refine enter_wp 16 #[.slice pa la ca] (by intro c h; cases h) (fun _ _ => trivial) (by simp only [execOp, evalC, evalF, evalG, resolve, i34, List.map_toArray, List.map_cons, List.map_nil]; simp [invoke, egW, Result.andThen, go_sem]) (by intro h; cases h) (callsIn_wide.2 (WHL.out u (B2.trans hu))) ?_
                rintro e w' ⟨q, c, rfl, hR, _, hb⟩
                exact ⟨_, rfl, _, rfl, ⟨q, c, rfl, hR⟩, hb⟩
              · simp only [List.getElem?_toArray, List.getElem?_cons_zero, List.getElem?_cons_succ, Option.some.injEq] at ho
                subst ho
                obtain rfl := Option.some.inj hdt
                have i7 : act.eval (.tmp (7 : Nat)) = .pointer (some ⟨w2.heap.size, 0, none⟩) := hfr 7 (by decide)
                exact plain_wp (by intro c h; cases h) (fun _ _ => trivial) (by simp only [execOp, i7, evalC, evalF, evalG]; simp [go_sem, y0, y1, y2]) ⟨_, rfl, rfl, Bl.refl _⟩
              · simp only [List.getElem?_toArray, List.getElem?_cons_zero, List.getElem?_cons_succ, Option.some.injEq] at ho
                subst ho
                obtain rfl := Option.some.inj hdt
                have i35 : ∃ q c, (act.eval (.tmp (35 : Nat))) = .slice q la c ∧ Rw 3 cellsF u (.slice q la c) (linJ la (fun i => wholeF (xa.getD i 0))) := hin ⟨1, .data⟩ (by simp) rfl 35 rfl
                have i36 : (act.eval (.tmp (36 : Nat))) = mV la la p2 N c2 := hin ⟨2, .data⟩ (by simp) rfl 36 rfl
                obtain ⟨q0, c0, e0, hq⟩ := i35
                refine enter_wp 25 #[.slice q0 la c0, mV la la p2 N c2] (by intro c h; cases h) (fun _ _ => trivial) (by simp only [execOp, evalC, evalF, evalG, resolve, e0, i36, List.map_toArray, List.map_cons, List.map_nil]; simp [invoke, egN, Result.andThen, go_sem]) (by intro h; cases h) (callsIn_wide.2 (rNewF_no q0 la c0 la la p2 N c2 u HFIT.out)) ?_
                rintro e w' ⟨rfl, hb⟩
                exact ⟨_, rfl, _, rfl, rfl, hb⟩
              · simp only [List.getElem?_toArray, List.getElem?_cons_zero, List.getElem?_cons_succ, Option.some.injEq] at ho
                subst ho
                obtain rfl := Option.some.inj hdt
                have i37 : (act.eval (.tmp (37 : Nat))) = .tuple #[sJ none 0 0 0 0 none 0 0, .bool false] := hin ⟨3, .data⟩ (by simp) rfl 37 rfl
                have e1 := i37
                exact plain_wp (by intro c h; cases h) (fun _ _ => trivial) (by simp only [execOp, e1]; simp [go_sem]) ⟨_, rfl, rfl, Bl.refl _⟩
              · simp only [List.getElem?_toArray, List.getElem?_cons_zero, List.getElem?_cons_succ, Option.some.injEq] at ho
                subst ho
                obtain rfl := Option.some.inj hdt
                have i33 : (act.eval (.tmp (33 : Nat))) = .tuple #[sJ none 0 0 0 0 none 0 0, .bool false] := hin ⟨4, .data⟩ (by simp) rfl 33 rfl
                have e1 := i33
                exact plain_wp (by intro c h; cases h) (fun _ _ => trivial) (by simp only [execOp, e1]; simp [go_sem]) ⟨_, rfl, rfl, Bl.refl _⟩
              · cases hpu
              · simp only [List.getElem?_toArray, List.getElem?_cons_zero, List.getElem?_cons_succ, Option.some.injEq] at ho
                subst ho
                obtain rfl := Option.some.inj hdt
                exact plain_wp (by intro c h; cases h) (fun _ _ => trivial) (w' := u.alloc (.cells #[.slice none 0 0, .int .i64 0, .int .i64 0, .slice none 0 0] 63)) (v := .pointer (some ⟨u.heap.size, 0, none⟩)) (by simp only [execOp]; simp [go_sem]) ⟨_, rfl, ⟨u.heap.size, rfl, hu.size, SBox.new u _ _ _ _ _ _ _ _ _, noB_newSF u _⟩, (Bl.refl _).alloc _⟩
              · simp only [List.getElem?_toArray, List.getElem?_cons_zero, List.getElem?_cons_succ, Option.some.injEq] at ho
                subst ho
                cases hdt
              · cases hpu
            case still =>
              intro j o t act u0 u ho hdt hpu hsz hu hfr hin
              have hj : j < 10 := (Array.getElem?_eq_some_iff.1 ho).1
              obtain ⟨y0, y1, y2, _, _, _, _⟩ := k2.later hu
              rcases (by omega : j = 0 ∨ j = 1 ∨ j = 2 ∨ j = 3 ∨ j = 4 ∨ j = 5 ∨ j = 6 ∨ j = 7 ∨ j = 8 ∨ j = 9) with rfl | rfl | rfl | rfl | rfl | rfl | rfl | rfl | rfl | rfl
              · cases hpu
              · cases hpu
              · cases hpu
              · cases hpu
              · cases hpu
              · cases hpu
              · simp only [List.getElem?_toArray, List.getElem?_cons_zero, List.getElem?_cons_succ, Option.some.injEq] at ho
                subst ho
                obtain rfl := Option.some.inj hdt
                have i33 : (act.eval (.tmp (33 : Nat))) = .tuple #[sJ none 0 0 0 0 none 0 0, .bool false] := hin ⟨4, .data⟩ (by simp) rfl 33 rfl
                have e1 := i33
                exact plain_wp (by intro c h; cases h) (fun _ _ => trivial) (by simp only [execOp, e1]; simp [go_sem]) ⟨_, rfl, rfl, rfl⟩
              · cases hpu
              · cases hpu
              · simp only [List.getElem?_toArray, List.getElem?_cons_zero, List.getElem?_cons_succ, Option.some.injEq] at ho
                subst ho
                obtain rfl := Option.some.inj hdt
                have i39 : (act.eval (.tmp (39 : Nat))) = .bool false := hin ⟨6, .data⟩ (by simp) rfl 39 rfl
                exact plain_wp (by intro c h; cases h) (fun _ _ => trivial) (by simp only [execOp, i39, evalC, evalF, evalG]; simp [go_sem]) ⟨_, rfl, rfl, rfl⟩
            case store =>
              intro o act u vs ho hsz hu hfr hin
              simp only [List.getElem?_toArray, List.getElem?_cons_zero, List.getElem?_cons_succ, Option.some.injEq] at ho
              subst ho
              obtain ⟨i9, k9⟩ : act.eval (.tmp (9 : Nat)) = vs 7 ∧ (∃ b, (vs 7) = .pointer (some ⟨b, 0, none⟩) ∧ W2.heap.size ≤ b ∧ SBox u b none 0 0 0 0 none 0 0 ∧ NoB u b) := hin 7 9 rfl rfl
              obtain ⟨i38, k38⟩ : act.eval (.tmp (38 : Nat)) = vs 5 ∧ ((vs 5) = sJ none 0 0 0 0 none 0 0) := hin 5 38 rfl rfl
              obtain ⟨b, e1, hb, bx, nb⟩ := k9
              have e2 := k38
              rw [e1] at i9
              rw [e2] at i38
              obtain ⟨d0, d1, d2, d3, g0, g1, g2, g3, ltb⟩ := id bx
              exact skip_wp (by intro c h; cases h) (fun _ _ => trivial) (by simp only [execOp, i9, i38]; simp [go_sem, d0, d1, d2, d3, g0, g1, g2, g3]) ⟨rfl, b, e1, hb, bx.fill _ _ _ _ _ _ _ _, Bl.put4 hu hb _ _ _ _⟩
            case fin =>
              intro vs vb u0 u hu hin hps
              have a0 := hin 0 34 rfl
              have a1 := hin 1 35 rfl
              have a2 := hin 2 36 rfl
              have a3 := hin 3 37 rfl
              have a4 := hin 4 33 rfl
              have a5 := hin 5 38 rfl
              have a6 := hin 6 39 rfl
              have a7 := hin 7 9 rfl
              have a9 := hin 9 10 rfl
              simp only [putL, Act.put, List.setIfInBounds_toArray, List.set_cons_zero, List.set_cons_succ, Nat.zero_add, Nat.reduceAdd, Nat.reduceBEq, Bool.or_false, Bool.or_true, Bool.false_or, Bool.true_or, Bool.false_eq_true, if_false, if_true, reduceIte, Nat.reduceEqDiff, beq_self_eq_true, Bool.or_self] at a0 a1 a2 a3 a4 a5 a6 a7 a9 ⊢
              rw [if_pos (by decide)] at hps
              simp only [a0, a2, a3, a4, a5, a6, a9]
              obtain ⟨b, eb, hb, ks, hbu⟩ := hps
              simp only [eb]
              obtain ⟨w3, rfl⟩ : ∃ w3, w3 = u := ⟨_, rfl⟩
              clear a1 a7 hu hin
              have B3 : Bl w1 w3 := B2.trans hbu
              have RT := hideP (fun u => by have := rRightF none 0 0 0 0 none 0 0 u; rw [show fitJ 0 0 0 ((0 : Nat) : Int) = false from rfl] at this; exact this)
              have CV := hideP (fun u => rCoverF_no none 0 0 0 0 none 0 0 u rfl)
              have SN := hideP (fun u => same6_any 0 0 none 0 0 none 0 [] u (.inl ⟨none, 0, rfl, rfl, fun _ => rfl⟩) (.inl ⟨none, 0, rfl, rfl, fun _ => rfl⟩) rfl (by intro x hx; cases hx) (by omega))
              obtain ⟨s0, s1, s2, s3, _, _, _, _, _⟩ := id ks
              go_wp2_with fail
              refine (RT.out _).mono ?_
              rintro e w4 ⟨rfl, h4'⟩
              clear s0 s1 s2 s3
              obtain ⟨s0, s1, s2, s3, _, _, _, _, _⟩ := ks.later h4'
              go_wp2_with fail
              refine (CV.out _).mono ?_
              rintro e w5 ⟨rfl, h5⟩
              go_wp2_with fail
              refine (SN.out _).mono ?_
              rintro e w6 ⟨rfl, h6⟩
              go_wp2_with fail
              refine (AW.out _).mono ?_
              rintro e w99 ⟨rfl, h99⟩
              go_wp2
              go_ret
              exact ⟨rfl, (B3.trans (h4'.trans (h5.trans h6))).trans h99⟩
        · have HFIT := hideP (show fitJ m m N la = false from by unfold fitJ; rw [show (((m : Int) == (la : Int))) = false by simp; omega]; simp)
          have e1 : ((la : Int) != (m : Int)) = true := by simp; omega
          go_wp2_with fail
          rw [← HW2.out]
          refine (wpIn_wide (n := 8)).1 (region_q fm [some 34, some 35, some 36, some 37, some 33, some 38, some 39, some 9, none, some 10] (fun j => j == 6 || j == 9) 8 (by kernel_rfl) (by rfl)
                (fun j v u => match j with | 0 => v = .slice pa la ca | 1 => ∃ q c, v = .slice q la c ∧ Rw 3 cellsF u (.slice q la c) (linJ la (fun i => wholeF (xa.getD i 0))) | 2 => v = mV m m p2 N c2 | 3 => v = .tuple #[sJ none 0 0 0 0 none 0 0, .bool false] | 4 => v = .tuple #[sJ none 0 0 0 0 none 0 0, .bool false] | 5 => v = sJ none 0 0 0 0 none 0 0 | 6 => v = .bool false | 7 => ∃ b, v = .pointer (some ⟨b, 0, none⟩) ∧ W2.heap.size ≤ b ∧ SBox u b none 0 0 0 0 none 0 0 ∧ NoB u b | 9 => v = .bool false | _ => False)
                (by
                  intro j v u u' hb h
                  split at h <;> first | exact h | (obtain ⟨b, e, h1, h2, h3⟩ := h; exact ⟨b, e, h1, h2.later hb, h3.later hb h2.lt⟩) | (obtain ⟨q, c, p', c', e, h1, h2⟩ := h; exact ⟨q, c, p', c', e, h1.later hb, Mx.later h2 hb⟩) | (obtain ⟨q, c, e, h1⟩ := h; exact ⟨q, c, e, h1.later hb⟩) | (obtain ⟨g, e, h1⟩ := h; exact ⟨g, e, h1.later hb⟩)) (fun vs u0 u => ∃ b, vs 7 = .pointer (some ⟨b, 0, none⟩) ∧ W2.heap.size ≤ b ∧ SBox u b none 0 0 0 0 none 0 0 ∧ Bl W2 u) ?step ?still ?store ?fin)
          case step =>
            intro j o t act u ho hdt hpu hsz hu hfr hin
            have hj : j < 10 := (Array.getElem?_eq_some_iff.1 ho).1
            obtain ⟨y0, y1, y2, _, _, _, _⟩ := k2.later hu
            rcases (by omega : j = 0 ∨ j = 1 ∨ j = 2 ∨ j = 3 ∨ j = 4 ∨ j = 5 ∨ j = 6 ∨ j = 7 ∨ j = 8 ∨ j = 9) with rfl | rfl | rfl | rfl | rfl | rfl | rfl | rfl | rfl | rfl
            · simp only [List.getElem?_toArray, List.getElem?_cons_zero, List.getElem?_cons_succ, Option.some.injEq] at ho
              subst ho
              obtain rfl := Option.some.inj hdt
              have i0 : act.eval (.tmp (0 : Nat)) = .slice pa la ca := hfr 0 (by decide)
              exact plain_wp (by intro c h; cases h) (fun _ _ => trivial) (by simp only [execOp, i0, evalC, evalF, evalG]; simp [go_sem]) ⟨_, rfl, rfl, Bl.refl _⟩
            · simp only [List.getElem?_toArray, List.getElem?_cons_zero, List.getElem?_cons_succ, Option.some.injEq] at ho
              subst ho
              obtain rfl := Option.some.inj hdt
              have i34 : (act.eval (.tmp (34 : Nat))) = .slice pa la ca := hin ⟨0, .data⟩ (by simp) rfl 34 rfl
              refine enter_wp 16 #[.slice pa la ca] (by intro c h; cases h) (fun _ _ => trivial) (by simp only [execOp, evalC, evalF, evalG, resolve, i34, List.map_toArray, List.map_cons, List.map_nil]; simp [invoke, egW, Result.andThen, go_sem]) (by intro h; cases h) (callsIn_wide.2 (WHL.out u (B2.trans hu))) ?_
              rintro e w' ⟨q, c, rfl, hR, _, hb⟩
              exact ⟨_, rfl, _, rfl, ⟨q, c, rfl, hR⟩, hb⟩
            · simp only [List.getElem?_toArray, List.getElem?_cons_zero, List.getElem?_cons_succ, Option.some.injEq] at ho
              subst ho
              obtain rfl := Option.some.inj hdt
              have i7 : act.eval (.tmp (7 : Nat)) = .pointer (some ⟨w2.heap.size, 0, none⟩) := hfr 7 (by decide)
              exact plain_wp (by intro c h; cases h) (fun _ _ => trivial) (by simp only [execOp, i7, evalC, evalF, evalG]; simp [go_sem, y0, y1, y2]) ⟨_, rfl, rfl, Bl.refl _⟩
            · simp only [List.getElem?_toArray, List.getElem?_cons_zero, List.getElem?_cons_succ, Option.some.injEq] at ho
              subst ho
              obtain rfl := Option.some.inj hdt
              have i35 : ∃ q c, (act.eval (.tmp (35 : Nat))) = .slice q la c ∧ Rw 3 cellsF u (.slice q la c) (linJ la (fun i => wholeF (xa.getD i 0))) := hin ⟨1, .data⟩ (by simp) rfl 35 rfl
              have i36 : (act.eval (.tmp (36 : Nat))) = mV m m p2 N c2 := hin ⟨2, .data⟩ (by simp) rfl 36 rfl
              obtain ⟨q0, c0, e0, hq⟩ := i35
              refine enter_wp 25 #[.slice q0 la c0, mV m m p2 N c2] (by intro c h; cases h) (fun _ _ => trivial) (by simp only [execOp, evalC, evalF, evalG, resolve, e0, i36, List.map_toArray, List.map_cons, List.map_nil]; simp [invoke, egN, Result.andThen, go_sem]) (by intro h; cases h) (callsIn_wide.2 (rNewF_no q0 la c0 m m p2 N c2 u HFIT.out)) ?_
              rintro e w' ⟨rfl, hb⟩
              exact ⟨_, rfl, _, rfl, rfl, hb⟩
            · simp only [List.getElem?_toArray, List.getElem?_cons_zero, List.getElem?_cons_succ, Option.some.injEq] at ho
              subst ho
              obtain rfl := Option.some.inj hdt
              have i37 : (act.eval (.tmp (37 : Nat))) = .tuple #[sJ none 0 0 0 0 none 0 0, .bool false] := hin ⟨3, .data⟩ (by simp) rfl 37 rfl
              have e1 := i37
              exact plain_wp (by intro c h; cases h) (fun _ _ => trivial) (by simp only [execOp, e1]; simp [go_sem]) ⟨_, rfl, rfl, Bl.refl _⟩
            · simp only [List.getElem?_toArray, List.getElem?_cons_zero, List.getElem?_cons_succ, Option.some.injEq] at ho
              subst ho
              obtain rfl := Option.some.inj hdt
              have i33 : (act.eval (.tmp (33 : Nat))) = .tuple #[sJ none 0 0 0 0 none 0 0, .bool false] := hin ⟨4, .data⟩ (by simp) rfl 33 rfl
              have e1 := i33
              exact plain_wp (by intro c h; cases h) (fun _ _ => trivial) (by simp only [execOp, e1]; simp [go_sem]) ⟨_, rfl, rfl, Bl.refl _⟩
            · cases hpu
            · simp only [List.getElem?_toArray, List.getElem?_cons_zero, List.getElem?_cons_succ, Option.some.injEq] at ho
              subst ho
              obtain rfl := Option.some.inj hdt
              exact plain_wp (by intro c h; cases h) (fun _ _ => trivial) (w' := u.alloc (.cells #[.slice none 0 0, .int .i64 0, .int .i64 0, .slice none 0 0] 63)) (v := .pointer (some ⟨u.heap.size, 0, none⟩)) (by simp only [execOp]; simp [go_sem]) ⟨_, rfl, ⟨u.heap.size, rfl, hu.size, SBox.new u _ _ _ _ _ _ _ _ _, noB_newSF u _⟩, (Bl.refl _).alloc _⟩
            · simp only [List.getElem?_toArray, List.getElem?_cons_zero, List.getElem?_cons_succ, Option.some.injEq] at ho
              subst ho
              cases hdt
            · cases hpu
          case still =>
            intro j o t act u0 u ho hdt hpu hsz hu hfr hin
            have hj : j < 10 := (Array.getElem?_eq_some_iff.1 ho).1
            obtain ⟨y0, y1, y2, _, _, _, _⟩ := k2.later hu
            rcases (by omega : j = 0 ∨ j = 1 ∨ j = 2 ∨ j = 3 ∨ j = 4 ∨ j = 5 ∨ j = 6 ∨ j = 7 ∨ j = 8 ∨ j = 9) with rfl | rfl | rfl | rfl | rfl | rfl | rfl | rfl | rfl | rfl
            · cases hpu
            · cases hpu
            · cases hpu
            · cases hpu
            · cases hpu
            · cases hpu
            · simp only [List.getElem?_toArray, List.getElem?_cons_zero, List.getElem?_cons_succ, Option.some.injEq] at ho
              subst ho
              obtain rfl := Option.some.inj hdt
              have i33 : (act.eval (.tmp (33 : Nat))) = .tuple #[sJ none 0 0 0 0 none 0 0, .bool false] := hin ⟨4, .data⟩ (by simp) rfl 33 rfl
              have e1 := i33
              exact plain_wp (by intro c h; cases h) (fun _ _ => trivial) (by simp only [execOp, e1]; simp [go_sem]) ⟨_, rfl, rfl, rfl⟩
            · cases hpu
            · cases hpu
            · simp only [List.getElem?_toArray, List.getElem?_cons_zero, List.getElem?_cons_succ, Option.some.injEq] at ho
              subst ho
              obtain rfl := Option.some.inj hdt
              have i39 : (act.eval (.tmp (39 : Nat))) = .bool false := hin ⟨6, .data⟩ (by simp) rfl 39 rfl
              exact plain_wp (by intro c h; cases h) (fun _ _ => trivial) (by simp only [execOp, i39, evalC, evalF, evalG]; simp [go_sem]) ⟨_, rfl, rfl, rfl⟩
          case store =>
            intro o act u vs ho hsz hu hfr hin
            simp only [List.getElem?_toArray, List.getElem?_cons_zero, List.getElem?_cons_succ, Option.some.injEq] at ho
            subst ho
            obtain ⟨i9, k9⟩ : act.eval (.tmp (9 : Nat)) = vs 7 ∧ (∃ b, (vs 7) = .pointer (some ⟨b, 0, none⟩) ∧ W2.heap.size ≤ b ∧ SBox u b none 0 0 0 0 none 0 0 ∧ NoB u b) := hin 7 9 rfl rfl
            obtain ⟨i38, k38⟩ : act.eval (.tmp (38 : Nat)) = vs 5 ∧ ((vs 5) = sJ none 0 0 0 0 none 0 0) := hin 5 38 rfl rfl
            obtain ⟨b, e1, hb, bx, nb⟩ := k9
            have e2 := k38
            rw [e1] at i9
            rw [e2] at i38
            obtain ⟨d0, d1, d2, d3, g0, g1, g2, g3, ltb⟩ := id bx
            exact skip_wp (by intro c h; cases h) (fun _ _ => trivial) (by simp only [execOp, i9, i38]; simp [go_sem, d0, d1, d2, d3, g0, g1, g2, g3]) ⟨rfl, b, e1, hb, bx.fill _ _ _ _ _ _ _ _, Bl.put4 hu hb _ _ _ _⟩
          case fin =>
            intro vs vb u0 u hu hin hps
            have a0 := hin 0 34 rfl
            have a1 := hin 1 35 rfl
            have a2 := hin 2 36 rfl
            have a3 := hin 3 37 rfl
            have a4 := hin 4 33 rfl
            have a5 := hin 5 38 rfl
            have a6 := hin 6 39 rfl
            have a7 := hin 7 9 rfl
            have a9 := hin 9 10 rfl
            simp only [putL, Act.put, List.setIfInBounds_toArray, List.set_cons_zero, List.set_cons_succ, Nat.zero_add, Nat.reduceAdd, Nat.reduceBEq, Bool.or_false, Bool.or_true, Bool.false_or, Bool.true_or, Bool.false_eq_true, if_false, if_true, reduceIte, Nat.reduceEqDiff, beq_self_eq_true, Bool.or_self] at a0 a1 a2 a3 a4 a5 a6 a7 a9 ⊢
            rw [if_pos (by decide)] at hps
            simp only [a0, a2, a3, a4, a5, a6, a9]
            obtain ⟨b, eb, hb, ks, hbu⟩ := hps
            simp only [eb]
            obtain ⟨w3, rfl⟩ : ∃ w3, w3 = u := ⟨_, rfl⟩
            clear a1 a7 hu hin
            have B3 : Bl w1 w3 := B2.trans hbu
            have RT := hideP (fun u => by have := rRightF none 0 0 0 0 none 0 0 u; rw [show fitJ 0 0 0 ((0 : Nat) : Int) = false from rfl] at this; exact this)
            have CV := hideP (fun u => rCoverF_no none 0 0 0 0 none 0 0 u rfl)
            have SN := hideP (fun u => same6_any 0 0 none 0 0 none 0 [] u (.inl ⟨none, 0, rfl, rfl, fun _ => rfl⟩) (.inl ⟨none, 0, rfl, rfl, fun _ => rfl⟩) rfl (by intro x hx; cases hx) (by omega))
            obtain ⟨s0, s1, s2, s3, _, _, _, _, _⟩ := id ks
            go_wp2_with fail
            refine (RT.out _).mono ?_
            rintro e w4 ⟨rfl, h4'⟩
            clear s0 s1 s2 s3
            obtain ⟨s0, s1, s2, s3, _, _, _, _, _⟩ := ks.later h4'
            go_wp2_with fail
            refine (CV.out _).mono ?_
            rintro e w5 ⟨rfl, h5⟩
            go_wp2_with fail
            refine (SN.out _).mono ?_
            rintro e w6 ⟨rfl, h6⟩
            go_wp2_with fail
            refine (AW.out _).mono ?_
            rintro e w99 ⟨rfl, h99⟩
            go_wp2
            go_ret
            exact ⟨rfl, (B3.trans (h4'.trans (h5.trans h6))).trans h99⟩
end Go.Proofs.YtljmggemdkfbiaaGreat

/- A slice of whole numbers as an argument: opened. -/
namespace Go.Proofs.YtljmggemdkfbiaaGreat
open Go.ChangeShapes Go.WideShapes Go.ChangeAt Go.RowKit
set_option linter.unusedVariables false

theorem Tryz.cellsInt : Tryz.prog.cellsOf 3 = 1 := by kernel_rfl
theorem cell_block_lt {W : World} {b o : Nat} {v : Value} (h : W.cell? ⟨b, o, none⟩ = some v) : b < W.heap.size := by
  rcases Nat.lt_or_ge b W.heap.size with h' | h'
  · exact h'
  · have : W.heap[b]? = none := Array.getElem?_eq_none h'
    simp [World.cell?, this] at h
set_option maxRecDepth 1000000 in
theorem open_row {H : Type} {enc : TypeId × Value → H} {W : World} {b0 : Nat} {v : Value} {d : DataW H} {p : List MemPlace}
    (hv : Value.okWide Tryz.prog W .any b0 22 v) (h : DataW.Trod enc Tryz.prog W 0 (fun _ => true) true 22 v d p) : ∃ ns : List Int, Rq 1 cI W v ns ∧ ∀ n ∈ ns, (Lit.int .i64 n).wf = true := by
  obtain ⟨a0, len, cap, rfl⟩ := okWide_slice Tryz.underlying22 hv
  obtain ⟨fuel, hf⟩ := h
  rcases open_ints Tryz.underlying22 Tryz.underlying3 Tryz.cellsInt hf with ⟨hcs, hx⟩ | ⟨a, len', cap', zs, hcs, _, hl, hm, hz, hx, hcell, hwz⟩
  · simp [Value.cells] at hcs
    obtain ⟨rfl, rfl, rfl⟩ := hcs
    exact ⟨[], .inl ⟨none, 0, rfl, rfl, fun _ => rfl⟩, fun n hn => by simp at hn⟩
  · simp [Value.cells] at hcs
    obtain ⟨rfl, rfl, rfl⟩ := hcs
    simp only [if_true] at hz
    refine ⟨zs.take len, ?_, fun n hn => hwz n (List.mem_of_mem_take hn)⟩
    by_cases h0 : len = 0
    · subst h0
      exact .inl ⟨some a, cap, rfl, by simp, nofun⟩
    · have c0 := hcell 0 (by omega)
      obtain ⟨b, off, rfl, hc⟩ := ints_at hcell (by omega)
      have hb : b < W.heap.size := by
        have := hc 0 (by omega)
        exact cell_block_lt this
      have hll : (zs.take len).length = len := by simp; omega
      refine .inr ⟨b, off, cap, by rw [hll], by omega, hb, fun j x hj k u hu => ?_⟩
      rcases k with _ | k
      · simp at hu
        subst hu
        have hj2 := (List.getElem?_eq_some_iff.1 hj).1
        have := hc j (by omega)
        rw [List.getElem?_take] at hj
        split at hj
        · have e : zs.getD j 0 = x := by simp [List.getD, hj]
          rw [e] at this
          simpa using this
        · cases hj
      · simp at hu
end Go.Proofs.YtljmggemdkfbiaaGreat

/- A new state's triangle is cleared, and its cover is the square. Conditions: none (every input). -/
namespace Go.Proofs.YtljmggemdkfbiaaGreat
open Go.ChangeShapes Go.WideShapes Go.ChangeAt Go.RowKit
set_option linter.unusedVariables false

theorem own_RootNew : ownKnob Tryz.prog.godebug = none := by kernel_rfl
theorem laid_RootNew : laidOutB Tryz.prog = true := by kernel_rfl
set_option maxRecDepth 100000 in
theorem lifted_RootNew (os : Os) (started : os.Started) (H : Type) (enc : TypeId × Value → H) :
    ReturnsInHanded {} Tryz.checked os 6 .any (Rows.rootNewSpec.pre6 enc Tryz.prog Tryz.f6 Rows.rootNewRow.domain false) (Rows.rootNewSpec.post enc Tryz.prog Tryz.f6 false true false false) := by
  refine returnsInHanded_of_change (C := Tryz.checked) own_RootNew started (by kernel_rfl) Tryz.func6
    (ChangeSpec.witness6 (enc := enc) (C := Tryz.checked) false ⟨#[], #[.slice none 0 0, .slice none 0 0, .int .i64 0], []⟩ 8 (by kernel_rfl) (by kernel_rfl) (by kernel_rfl) (by kernel_rfl)) ?_
  intro W base args ds gs before hval0 hW hcnd _
  have hval : ∀ (j : Nat) t v, Tryz.f6.params[j]? = some t → args[j]? = some v → Value.okWide Tryz.prog W .any base t v := hval0
  have hW' := hW
  obtain ⟨p, q, hA0, hV, rfl, hfz, hnd⟩ := hW
  have hA : DataW.TrodAll enc Tryz.prog W 0 (fun _ => true) true Tryz.f6.params.toList args.toList ds p := hA0
  rw [Tryz.params6] at hA hval
  obtain ⟨v0, vs0, d0, ds0, p0, q0, hargs, rfl, rfl, h0, r0⟩ := trodAll_cons hA
  obtain ⟨v1, vs1, d1, ds1, p1, q1, rfl, rfl, rfl, h1, r1⟩ := trodAll_cons r0
  obtain ⟨v2, vs2, d2, ds2, p2, q2, rfl, rfl, rfl, h2, r2⟩ := trodAll_cons r1
  obtain ⟨rfl, rfl, rfl⟩ := trodAll_nil r2
  obtain rfl : args = #[v0, v1, v2] := by cases args; simp_all
  obtain ⟨rfl, rfl⟩ := trodVars_none hV
  have hltA := fun x hx => hW'.lt x hx
  obtain ⟨a0, R0, w0⟩ := open_row (hval 0 22 v0 rfl rfl) h0
  obtain ⟨a1, R1, w1⟩ := open_row (hval 1 22 v1 rfl rfl) h1
  obtain ⟨a2, e2, _, _, w2⟩ := open_int Tryz.underlying3 (hval 2 3 v2 rfl rfl) h2
  subst e2
  clear hA0 hval0
  refine (walk_RootNew v0 a0 v1 a1 a2 W R0 R1).mono fun e W' ⟨he, bel⟩ => ?_
  subst he
  exact ⟨_, rfl, _, _, _, [], _, [], hW', trodAll_mk1 (shut_bool Tryz.underlying4 _), (trodAll_cons_mk (Below.trod laid_RootNew (by kernel_rfl) (of_decide_eq_true (by kernel_rfl)) h0 bel (fun x hx => by have := hltA x (by simp [hx]); simpa using this)) (trodAll_cons_mk (Below.trod laid_RootNew (by kernel_rfl) (of_decide_eq_true (by kernel_rfl)) h1 bel (fun x hx => by have := hltA x (by simp [hx]); simpa using this)) (trodAll_cons_mk (Below.trod laid_RootNew (by kernel_rfl) (of_decide_eq_true (by kernel_rfl)) h2 bel (fun x hx => by have := hltA x (by simp [hx]); simpa using this)) trodAll_mk0))), rfl, Below.frame bel _, fun h => by cases h⟩

theorem proved_RootNew : Rows.RootNewSaid :=
  OpenClaim.holds_of_wide 6 Tryz.f6 rfl rfl rfl rfl rfl rfl rfl ⟨rfl, rfl, rfl, rfl, rfl⟩ rfl rfl rfl rfl rfl (by kernel_rfl) Tryz.func6 (by kernel_rfl)
    (of_decide_eq_true (by kernel_rfl)) (by unfold Func.isWrapper; first | (rw [if_pos (by decide +kernel)]; kernel_rfl) | (rw [if_neg (by decide +kernel)]; exact ⟨rfl, rfl⟩))
    (fun os started H enc _ => lifted_RootNew os started H enc)
#print axioms proved_RootNew
end Go.Proofs.YtljmggemdkfbiaaGreat
